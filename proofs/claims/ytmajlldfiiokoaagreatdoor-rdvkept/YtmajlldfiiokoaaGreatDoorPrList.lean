/- peer.Follow, wigwaglaw09.Cut, the document's Ints. -/
import Derived.Test.YtmajlldfiiokoaaGreatDoorPrHead
import Derived.Test.YtmajlldfiiokoaaGreatDoorOwnSrc
import Derived.BigQuiet
namespace Go.Proofs.YtmajlldfiiokoaaGreatDoor
open Go.ChangeShapes Go.WideShapes Go.ChangeAt Go.RowKit Go.Deep
set_option linter.unusedVariables false

theorem Tryz.infoInt : (Tryz.prog.info? 3).map (fun i => (i.zero, i.size, i.bytes)) = some (some (.int .i64 0), 1, 8) := by kernel_rfl
theorem info_of {P : Program} {t : TypeId} {z : Value} {s b : Nat} (h : (P.info? t).map (fun i => (i.zero, i.size, i.bytes)) = some (some z, s, b)) : ∃ i, P.info? t = some i ∧ i.zero = some z ∧ i.size = s ∧ i.bytes = b := by
  cases hi : P.info? t with
  | none => rw [hi] at h; cases h
  | some i => rw [hi] at h; simp at h; exact ⟨i, rfl, h.1, h.2.1, h.2.2⟩

def cellI (n : Int) : Value := .int .i64 n

/-- A row of ints as what an append takes. -/
theorem src_ints {w : World} {a : Option Addr} {len cap : Nat} {l : List Int} (h : InIn w a len l) (hcap : a = none → len = 0) : Src Tryz.prog 1 24 (.slice a len cap) len (l.map cellI) w := by
  rcases a with _ | ⟨b, o, sp⟩
  · obtain rfl := hcap rfl
    have : l = [] := List.eq_nil_of_length_eq_zero h.1
    subst this
    exact Src.ofNil w Tryz.underlying24 cap
  · refine Src.ofSlice (e' := 3) w Tryz.underlying24 _ _ _ _ (by simp [h.1]) ?_ ?_
    · intro j u hu
      rw [List.getElem?_map] at hu
      cases hj : l[j]? with
      | none => rw [hj] at hu; cases hu
      | some y =>
        rw [hj] at hu
        cases hu
        have hjl : j < len := by rw [← h.1]; exact (List.getElem?_eq_some_iff.1 hj).1
        obtain ⟨b', o', hb, _, _, hc⟩ := h.one (v := Value.int .i64) (fun _ => rfl) hjl
        simp at hb
        obtain ⟨rfl, rfl, rfl⟩ := hb
        have e : (⟨b, o, none⟩ : Addr).add j = ⟨b, o + j, none⟩ := by unfold Addr.add; split <;> simp_all
        rw [e, hc]
        simp [List.getD, hj, cellI]
    · intro u hu
      obtain ⟨y, _, rfl⟩ := List.mem_map.1 hu
      rfl

theorem InRow.take {α : Type} {enc : α → List Value} {ok : α → Prop} {d : α} {k : Nat} {w : World} {a : Option Addr} {len : Nat} {xs : List α} (h : InRow k enc ok d w a len xs) (m : Nat) (hm : m ≤ len) : InRow k enc ok d w a m (xs.take m) := by
  refine ⟨by rw [List.length_take, h.1]; omega, by have := h.2.1; omega, ?_⟩
  rcases h.2.2 with h0 | ⟨b, o, ha, hlt, hc⟩
  · exact .inl (by omega)
  · refine .inr ⟨b, o, ha, hlt, fun i hi => ?_⟩
    have e : (xs.take m).getD i d = xs.getD i d := by simp [List.getD, hi]
    rw [e]
    exact hc i (by omega)

/-- A row of the call's own, as one that came in. -/
theorem in_of_own {w : World} {B n : Nat} {a : Option Addr} {c : Nat} {l : List Int} (h : w.ownsRow B 3 1 (.slice a n c) n (l.map cellI)) (hok : ∀ x ∈ l, i64 x) (hn : n ≤ 9223372036854775807) : InIn w a n l := by
  have hl : l.length = n := by have := h.1; simpa using this
  refine ⟨hl, hn, ?_⟩
  rcases h.2 with ⟨h0, h1⟩ | ⟨g, cap, cur, hv, hb, hg, hnc, _⟩
  · exact .inl h1
  · simp at hv
    obtain ⟨rfl, rfl⟩ := hv
    refine .inr ⟨g, 0, rfl, ?_, fun i hi => ?_⟩
    · rcases Nat.lt_or_ge g w.heap.size with q | q
      · exact q
      · rw [Array.getElem?_eq_none q] at hg; cases hg
    · have hil : i < l.length := by omega
      have e0 : l.getD i 0 = l[i] := by simp [List.getD, hil]
      refine ⟨by rw [e0]; exact hok _ (List.getElem_mem _), fun j hj => ?_⟩
      have e := h.cells (g := g) rfl i (cellI l[i]) (by simp [hil])
      have ea : (⟨g, 0, none⟩ : Addr).add i = ⟨g, i, none⟩ := by unfold Addr.add; split <;> simp_all
      rw [ea] at e
      obtain rfl : j = 0 := by omega
      rw [e0]
      simpa [encI, cellI] using e
theorem own_caps {w : World} {B n : Nat} {e : TypeId} {k : Nat} {a : Option Addr} {c : Nat} {xs : List Value} (h : w.ownsRow B e k (.slice a n c) n xs) : n ≤ c ∧ c ≤ 9223372036854775807 := by
  rcases h.2 with ⟨h0, h1⟩ | ⟨g, cap, cur, hv, hb, hg, hnc, hm, _⟩
  · simp at h0; omega
  · simp at hv; unfold maxLen at hm; omega
theorem own_new {w : World} {B n : Nat} {e : TypeId} {k : Nat} {a : Option Addr} {c : Nat} {xs : List Value} (h : w.ownsRow B e k (.slice a n c) n xs) : ∀ x, a = some x → B ≤ x.block := by
  intro x hx
  subst hx
  rcases h.2 with ⟨h0, _⟩ | ⟨g, cap, cur, hv, hb, _⟩
  · cases h0
  · simp at hv; rw [hv.1]; exact hb
theorem ints_ok {w : World} {a : Option Addr} {len : Nat} {l : List Int} (h : InIn w a len l) : ∀ x ∈ l, i64 x := by
  intro x hx
  obtain ⟨j, hj, rfl⟩ := List.getElem_of_mem hx
  obtain ⟨b, o, _, _, hk, _⟩ := h.one (v := Value.int .i64) (fun _ => rfl) (i := j) (by rw [← h.1]; exact hj)
  have e : l.getD j 0 = l[j] := by simp [List.getD, hj]
  rwa [e] at hk

set_option maxRecDepth 100000 in
set_option maxHeartbeats 1000000 in
theorem follow_any (s : Int) (id pred : Value) (a : Option Addr) (len cap : Nat) (l : List Int) (w : World) (hs : i64 s) (hl : InIn w a len l) (hcap : len ≤ cap) (hmost : cap ≤ 9223372036854775807) (hnil : a = none → len = 0) :
    Calls Tryz.prog 93 #[.int .i64 s, .agg #[id, pred, .slice a len cap]] w fun e w' => ∃ a' c', e = .returned (.slice a' (1 + min len 2) c') ∧ InIn w' a' (1 + min len 2) (s :: l.take 2) ∧ 1 + min len 2 ≤ c' ∧ c' ≤ 9223372036854775807 ∧ (∀ x, a' = some x → w.heap.size ≤ x.block) ∧ Below w.heap.size w w' := by
  obtain ⟨i0, hi, hz0, hz1, hz2⟩ := info_of Tryz.infoInt
  obtain ⟨m, hm⟩ : ∃ m, m = min len 2 := ⟨_, rfl⟩
  have hml : m ≤ len := by omega
  have ht : l.take 2 = l.take m := by
    rw [hm]
    by_cases q : len ≤ 2
    · rw [List.take_of_length_le (by rw [hl.1]; omega), List.take_of_length_le (by rw [hl.1]; omega)]
    · congr 1; omega
  rw [ht, ← hm]
  have HT : Hid (InIn w a m (l.take m)) := hl.take m hml
  have HOK : Hid (∀ x ∈ s :: l.take m, i64 x) := fun x hx => by
    rcases List.mem_cons.1 hx with rfl | hx
    · exact hs
    · exact ints_ok hl x (List.mem_of_mem_take hx)
  have HS : Hid (Src Tryz.prog 1 24 (.slice a m cap) m ((l.take m).map cellI) ((w.alloc (.cells #[id, pred, .slice a len cap] 80)).alloc (.cells #[.int .i64 s] 3))) :=
    src_ints (HT.out.below (Nat.le_refl _) ((below_one _ _).trans ((below_one _ _).mono (by simp)))) (fun h => by have := hnil h; omega)
  have HO : Hid (((w.alloc (.cells #[id, pred, .slice a len cap] 80)).alloc (.cells #[.int .i64 s] 3)).ownsRow (w.heap.size + 1) 3 1 (.slice (some ⟨w.heap.size + 1, 0, none⟩) 1 1) 1 [cellI s]) :=
    ⟨rfl, .inr ⟨w.heap.size + 1, 1, #[.int .i64 s], rfl, Nat.le_refl _, by simpa using heap_alloc_new (w.alloc (.cells #[id, pred, .slice a len cap] 80)) (.cells #[.int .i64 s] 3), Nat.le_refl _, by decide, rfl, rfl⟩⟩
  have hm2 : m ≤ 2 := by omega
  have HM : Hid (m = min len 2) := hm
  clear hs hl hm ht hnil HT
  by_cases q : len ≤ 2
  · obtain rfl : len = m := by have := HM.out; omega
    go_enter Tryz.func93, Tryz.ntmps93
    go_wp2_with (at_builtin; refine wpList_own_append _ rfl _ _ 24 24 rfl (w.heap.size + 1) 3 i0 _ 8 Tryz.underlying24 hi hz0 hz1 hz2 rfl _ _ _ rfl HO.out _ len _ rfl HS.out ?c3 ?c4 ?c5 ?_)
    case c3 => unfold maxLen; omega
    case c4 => omega
    case c5 => simp
    intro v' w1 ha
    have HA : Hid _ := ha
    obtain ⟨a', c', hv'⟩ := ha.shape
    subst hv'
    clear ha
    go_wp2
    go_ret
    have hg := HA.out.grown
    have hr := HA.out.row
    exact ⟨a', c', rfl, in_of_own (l := s :: l.take len) (by simpa using hr) HOK.out (by omega), (own_caps hr).1, (own_caps hr).2, fun x hx => by have := own_new hr x hx; omega,
      (below_one _ _).trans (((below_one _ _).mono (by simp)).trans ⟨hg.os, hg.tape, hg.output, by simpa using hg.size, fun k hk => hg.block k (by simp; omega) (by simp [Value.ownBlock]; omega)⟩)⟩
  · obtain rfl : m = 2 := by have := HM.out; omega
    have hc2 : 2 ≤ cap := by omega
    have hc3 : 2 < len := by omega
    go_enter Tryz.func93, Tryz.ntmps93
    go_wp2_with (at_builtin; refine wpList_own_append _ rfl _ _ 24 24 rfl (w.heap.size + 1) 3 i0 _ 8 Tryz.underlying24 hi hz0 hz1 hz2 rfl _ _ _ rfl HO.out _ 2 _ rfl HS.out ?c3 ?c4 ?c5 ?_)
    case c3 => unfold maxLen; omega
    case c4 => omega
    case c5 => simp
    intro v' w1 ha
    have HA : Hid _ := ha
    obtain ⟨a', c', hv'⟩ := ha.shape
    subst hv'
    clear ha
    go_wp2
    go_ret
    have hg := HA.out.grown
    have hr := HA.out.row
    exact ⟨a', c', rfl, in_of_own (l := s :: l.take 2) (by simpa using hr) HOK.out (by omega), (own_caps hr).1, (own_caps hr).2, fun x hx => by have := own_new hr x hx; omega,
      (below_one _ _).trans (((below_one _ _).mono (by simp)).trans ⟨hg.os, hg.tape, hg.output, by simpa using hg.size, fun k hk => hg.block k (by simp; omega) (by simp [Value.ownBlock]; omega)⟩)⟩
end Go.Proofs.YtmajlldfiiokoaaGreatDoor
