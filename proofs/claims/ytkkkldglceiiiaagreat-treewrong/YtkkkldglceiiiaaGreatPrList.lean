/- peer.Follow, wigwaglaw09.Cut, the document's Ints. -/
import Derived.Test.YtkkkldglceiiiaaGreatPrHead
import Derived.Test.YtkkkldglceiiiaaGreatOwnSrc
import Derived.BigQuiet
namespace Go.Proofs.YtkkkldglceiiiaaGreat
open Go.ChangeShapes Go.WideShapes Go.ChangeAt Go.RowKit Go.Deep
set_option linter.unusedVariables false

theorem Tryz.infoInt : (Tryz.prog.info? 3).map (fun i => (i.zero, i.size, i.bytes)) = some (some (.int .i64 0), 1, 8) := by kernel_rfl
theorem info_of {P : Program} {t : TypeId} {z : Value} {s b : Nat} (h : (P.info? t).map (fun i => (i.zero, i.size, i.bytes)) = some (some z, s, b)) : ∃ i, P.info? t = some i ∧ i.zero = some z ∧ i.size = s ∧ i.bytes = b := by
  cases hi : P.info? t with
  | none => rw [hi] at h; cases h
  | some i => rw [hi] at h; simp at h; exact ⟨i, rfl, h.1, h.2.1, h.2.2⟩

def cellI (n : Int) : Value := .int .i64 n

/-- A row of ints as what an append takes. -/
theorem src_ints {w : World} {a : Option Addr} {len cap : Nat} {l : List Int} (h : InIn w a len l) (hcap : a = none → len = 0) : Src Tryz.prog 1 30 (.slice a len cap) len (l.map cellI) w := by
  rcases a with _ | ⟨b, o, sp⟩
  · obtain rfl := hcap rfl
    have : l = [] := List.eq_nil_of_length_eq_zero h.1
    subst this
    exact Src.ofNil w Tryz.underlying30 cap
  · refine Src.ofSlice (e' := 3) w Tryz.underlying30 _ _ _ _ (by simp [h.1]) ?_ ?_
    · intro j u hu
      rw [List.getElem?_map] at hu
      cases hj : l[j]? with
      | none => rw [hj] at hu; cases hu
      | some y =>
        rw [hj] at hu
        cases hu
        have hjl : j < len := by rw [← h.1]; exact (List.getElem?_eq_some_iff.1 hj).1
        obtain ⟨b', o', hb, _, _, hc⟩ := h.one (v := Value.int .i64) (fun _ => rfl) hjl
        simp at hb
        obtain ⟨rfl, rfl, rfl⟩ := hb
        have e : (⟨b, o, none⟩ : Addr).add j = ⟨b, o + j, none⟩ := by unfold Addr.add; split <;> simp_all
        rw [e, hc]
        simp [List.getD, hj, cellI]
    · intro u hu
      obtain ⟨y, _, rfl⟩ := List.mem_map.1 hu
      rfl

theorem InRow.take {α : Type} {enc : α → List Value} {ok : α → Prop} {d : α} {k : Nat} {w : World} {a : Option Addr} {len : Nat} {xs : List α} (h : InRow k enc ok d w a len xs) (m : Nat) (hm : m ≤ len) : InRow k enc ok d w a m (xs.take m) := by
  refine ⟨by rw [List.length_take, h.1]; omega, by have := h.2.1; omega, ?_⟩
  rcases h.2.2 with h0 | ⟨b, o, ha, hlt, hc⟩
  · exact .inl (by omega)
  · refine .inr ⟨b, o, ha, hlt, fun i hi => ?_⟩
    have e : (xs.take m).getD i d = xs.getD i d := by simp [List.getD, hi]
    rw [e]
    exact hc i (by omega)

/-- A row of the call's own, as one that came in. -/
theorem in_of_own {w : World} {B n : Nat} {a : Option Addr} {c : Nat} {l : List Int} (h : w.ownsRow B 3 1 (.slice a n c) n (l.map cellI)) (hok : ∀ x ∈ l, i64 x) (hn : n ≤ 9223372036854775807) : InIn w a n l := by
  have hl : l.length = n := by have := h.1; simpa using this
  refine ⟨hl, hn, ?_⟩
  rcases h.2 with ⟨h0, h1⟩ | ⟨g, cap, cur, hv, hb, hg, hnc, _⟩
  · exact .inl h1
  · simp at hv
    obtain ⟨rfl, rfl⟩ := hv
    refine .inr ⟨g, 0, rfl, ?_, fun i hi => ?_⟩
    · rcases Nat.lt_or_ge g w.heap.size with q | q
      · exact q
      · rw [Array.getElem?_eq_none q] at hg; cases hg
    · have hil : i < l.length := by omega
      have e0 : l.getD i 0 = l[i] := by simp [List.getD, hil]
      refine ⟨by rw [e0]; exact hok _ (List.getElem_mem _), fun j hj => ?_⟩
      have e := h.cells (g := g) rfl i (cellI l[i]) (by simp [hil])
      have ea : (⟨g, 0, none⟩ : Addr).add i = ⟨g, i, none⟩ := by unfold Addr.add; split <;> simp_all
      rw [ea] at e
      obtain rfl : j = 0 := by omega
      rw [e0]
      simpa [encI, cellI] using e
theorem own_caps {w : World} {B n : Nat} {e : TypeId} {k : Nat} {a : Option Addr} {c : Nat} {xs : List Value} (h : w.ownsRow B e k (.slice a n c) n xs) : n ≤ c ∧ c ≤ 9223372036854775807 := by
  rcases h.2 with ⟨h0, h1⟩ | ⟨g, cap, cur, hv, hb, hg, hnc, hm, _⟩
  · simp at h0; omega
  · simp at hv; unfold maxLen at hm; omega
theorem own_new {w : World} {B n : Nat} {e : TypeId} {k : Nat} {a : Option Addr} {c : Nat} {xs : List Value} (h : w.ownsRow B e k (.slice a n c) n xs) : ∀ x, a = some x → B ≤ x.block := by
  intro x hx
  subst hx
  rcases h.2 with ⟨h0, _⟩ | ⟨g, cap, cur, hv, hb, _⟩
  · cases h0
  · simp at hv; rw [hv.1]; exact hb
theorem ints_ok {w : World} {a : Option Addr} {len : Nat} {l : List Int} (h : InIn w a len l) : ∀ x ∈ l, i64 x := by
  intro x hx
  obtain ⟨j, hj, rfl⟩ := List.getElem_of_mem hx
  obtain ⟨b, o, _, _, hk, _⟩ := h.one (v := Value.int .i64) (fun _ => rfl) (i := j) (by rw [← h.1]; exact hj)
  have e : l.getD j 0 = l[j] := by simp [List.getD, hj]
  rwa [e] at hk

end Go.Proofs.YtkkkldglceiiiaaGreat
