/- Whom the document's New takes for the next ones. No program in sight. -/
import Derived.Test.YtmajlldfiiokoaaGreatDoorChNewI
import Derived.Test.YtmajlldfiiokoaaGreatDoorSortRing
import Derived.Test.YtmajlldfiiokoaaGreatDoorRiseMath
set_option linter.unnecessarySimpa false
namespace Go.Proofs.YtmajlldfiiokoaaGreatDoor
open Go.RowKit
set_option linter.unusedVariables false

def bhF (l : List Int) (x : Int) : Nat → Int
  | 0 => -1
  | k + 1 => if l.getD k 0 ≠ x ∧ (bhF l x k < 0 ∨ dist x (l.getD k 0) < dist x (l.getD (bhF l x k).toNat 0)) then (k : Int) else bhF l x k
theorem bhF_spec (l : List Int) (x : Int) (k : Nat) : (bhF l x k = -1 ∧ ∀ j, j < k → l.getD j 0 = x) ∨ (0 ≤ bhF l x k ∧ bhF l x k < k ∧ l.getD (bhF l x k).toNat 0 ≠ x ∧ ∀ j, j < k → l.getD j 0 ≠ x → dist x (l.getD (bhF l x k).toNat 0) ≤ dist x (l.getD j 0)) := by
  induction k with
  | zero => exact .inl ⟨rfl, fun j hj => absurd hj (Nat.not_lt_zero _)⟩
  | succ k ih =>
    unfold bhF
    by_cases hc : l.getD k 0 ≠ x ∧ (bhF l x k < 0 ∨ dist x (l.getD k 0) < dist x (l.getD (bhF l x k).toNat 0))
    · rw [if_pos hc]
      refine .inr ⟨by omega, by omega, by simpa using hc.1, fun j hj hne => ?_⟩
      simp only [Int.toNat_natCast]
      by_cases e : j = k
      · rw [e]; exact Int.le_refl _
      · rcases ih with ⟨_, h2⟩ | ⟨h1, h2, h3, h4⟩
        · exact absurd (h2 j (by omega)) hne
        · have := h4 j (by omega) hne
          rcases hc.2 with q | q
          · omega
          · omega
    · rw [if_neg hc]
      rcases ih with ⟨h1, h2⟩ | ⟨h1, h2, h3, h4⟩
      · refine .inl ⟨h1, fun j hj => ?_⟩
        by_cases e : j = k
        · rw [e]
          by_cases hx : l.getD k 0 = x
          · exact hx
          · exact absurd ⟨hx, .inl (by omega)⟩ hc
        · exact h2 j (by omega)
      · refine .inr ⟨h1, by omega, h3, fun j hj hne => ?_⟩
        by_cases e : j = k
        · rw [e] at hne ⊢
          rcases Int.lt_or_le (dist x (l.getD k 0)) (dist x (l.getD (bhF l x k).toNat 0)) with q | q
          · exact absurd ⟨hne, .inr q⟩ hc
          · exact q
        · exact h4 j (by omega) hne
end Go.Proofs.YtmajlldfiiokoaaGreatDoor

/- Rows of numbers that the call itself makes; wigwaglaw01.ids. -/
namespace Go.Proofs.YtmajlldfiiokoaaGreatDoor
open Go.ChangeShapes Go.WideShapes Go.ChangeAt Go.RowKit
set_option linter.unusedVariables false

/-- A row of numbers made since w. -/
structure Made (w wr : World) (v : Value) (l : List Int) : Prop where
  below : Below w.heap.size w wr
  row : wr.ownsRow w.heap.size 58 1 v l.length (l.map (Value.int .u64))
  shape : ∃ a c, v = .slice a l.length c
theorem Made.size {w wr : World} {v : Value} {l : List Int} (h : Made w wr v l) : w.heap.size ≤ wr.heap.size := h.below.size

theorem Tryz.infoU64 : (Tryz.prog.info? 58).map (fun i => (i.zero, i.size, i.bytes)) = some (some (.int .u64 0), 1, 8) := by kernel_rfl

theorem Made.ids {w wr : World} {a : Option Addr} {n c : Nat} {l : List Int} (h : Made w wr (.slice a n c) l) (hn : n = l.length) : IdsAt wr a n l := by
  subst hn
  refine ⟨rfl, ?_⟩
  rcases h.row.2 with ⟨e, h0⟩ | ⟨g, cap, cur, e, hB, hg, hc, hm, hs, ht⟩
  · exact .inl h0
  · cases e
    have r := row_of_cells hg l _ rfl (by simpa using ht)
    refine .inr ⟨g, 0, rfl, fun j hj => ?_⟩
    have q := (r j (by simpa using hj)).1
    rw [q]
    congr 2
    rw [getElem!_pos l.toArray j (by simpa using hj), List.getD_eq_getElem?_getD, List.getElem?_eq_getElem hj]
    simp

theorem Made.empty (w : World) : Made w (w.alloc (.cells #[] 58)) (.slice (some ⟨w.heap.size, 0, none⟩) 0 0) [] :=
  ⟨(Below.refl _ _).alloc (Nat.le_refl _) _, ⟨rfl, .inr ⟨w.heap.size, 0, #[], rfl, Nat.le_refl _, by have := heap_alloc_new w (.cells #[] 58); simpa using this, Nat.le_refl _, Nat.zero_le _, rfl, rfl⟩⟩, ⟨_, _, rfl⟩⟩

theorem src_u64 (wr : World) (x : Int) (c : Nat) : Src Tryz.prog 1 27 (.slice (some ⟨wr.heap.size, 0, none⟩) 1 c) 1 [.int .u64 x] (wr.alloc (.cells #[.int .u64 x] 58)) := by
  refine Src.ofSlice (e' := 58) _ Tryz.underlying27 _ 1 c _ rfl ?_ ?_
  · intro j u hu
    match j with
    | 0 => simp at hu; subst hu; simp [Addr.add, World.cell?_alloc_new]
    | j + 1 => simp at hu
  · intro u hu
    simp at hu; subst hu; rfl

theorem Made.app {w wr w1 : World} {o : Obj} {v v' : Value} {l : List Int} {x : Int} {n : Nat} (h : Made w wr v l) (hn : n = l.length + 1)
    (ha : Appended w.heap.size 58 (wr.alloc o) w1 v v' n (l.map (Value.int .u64) ++ [.int .u64 x])) : Made w w1 v' (l ++ [x]) := by
  subst hn
  refine ⟨below_of_grown (h.below.alloc h.size o) (by have := h.size; simp; omega) ha.grown (fun k hk => (h.row.lt k hk).1), ?_, ?_⟩
  · have := ha.row; simpa using this
  · have := ha.shape; simpa using this

end Go.Proofs.YtmajlldfiiokoaaGreatDoor

/- wigwagref01.Sorted: the numbers, rising, each once. -/
namespace Go.Proofs.YtmajlldfiiokoaaGreatDoor
open Go.ChangeShapes Go.WideShapes Go.ChangeAt Go.RowKit
set_option linter.unusedVariables false

def Above (t : List Int) (x : Int) : Prop := ∀ y, y ∈ t → y < x
theorem above_iff {t : List Int} {k : Nat} (hp : t.Pairwise (· < ·)) (hk : t.length = k) (h0 : 0 < k) (x : Int) : t.getD (k - 1) 0 < x ↔ Above t x := by
  subst hk
  have e : t.getD (t.length - 1) 0 = t[t.length - 1] := by rw [List.getD_eq_getElem?_getD, List.getElem?_eq_getElem (by omega)]; rfl
  rw [e]
  constructor
  · intro h y hy
    obtain ⟨i, hi, rfl⟩ := List.mem_iff_getElem.1 hy
    by_cases q : i = t.length - 1
    · subst q; exact h
    · exact Int.lt_trans (List.pairwise_iff_getElem.1 hp i (t.length - 1) hi (by omega) (by omega)) h
  · intro h
    exact h _ (List.getElem_mem _)

structure Sel (t l : List Int) : Prop where
  rising : t.Pairwise (· < ·)
  sub : ∀ y, y ∈ t → y ∈ l
  rest : ∀ x, x ∈ l → x ∈ t ∨ Above t x
theorem Sel.nil (l : List Int) : Sel [] l := ⟨List.Pairwise.nil, fun y hy => by simp at hy, fun x _ => .inr (fun y hy => by simp at hy)⟩
theorem Sel.len {t l : List Int} (h : Sel t l) : t.length ≤ l.length := nodup_len t l h.rising h.sub
theorem Sel.snoc {t l : List Int} (h : Sel t l) {m : Int} (hm : m ∈ l) (ha : Above t m) (hl : ∀ x, x ∈ l → Above t x → m ≤ x) : Sel (t ++ [m]) l := by
  refine ⟨?_, ?_, ?_⟩
  · rw [List.pairwise_append]
    exact ⟨h.rising, by simp, fun a ha' b hb => by simp at hb; subst hb; exact ha a ha'⟩
  · intro y hy
    rcases List.mem_append.1 hy with q | q
    · exact h.sub y q
    · simp at q; subst q; exact hm
  · intro x hx
    rcases h.rest x hx with q | q
    · exact .inl (by simp [q])
    · by_cases e : x = m
      · exact .inl (by simp [e])
      · refine .inr (fun y hy => ?_)
        rcases List.mem_append.1 hy with r | r
        · exact q y r
        · simp at r; subst r; have := hl x hx q; omega
theorem Sel.done {t l : List Int} (h : Sel t l) (hn : ∀ x, x ∈ l → ¬ Above t x) (x : Int) : x ∈ t ↔ x ∈ l :=
  ⟨h.sub x, fun hx => (h.rest x hx).resolve_right (hn x hx)⟩

structure Least (t l : List Int) (j : Nat) (f : Bool) (m : Int) : Prop where
  no : f = false → ∀ i, i < j → ¬ Above t (l.getD i 0)
  yes : f = true → m ∈ l ∧ Above t m ∧ ∀ i, i < j → Above t (l.getD i 0) → m ≤ l.getD i 0
theorem Least.start (t l : List Int) : Least t l 0 false 0 := ⟨fun _ i hi => by omega, fun h => by cases h⟩
theorem Least.skip {t l : List Int} {j : Nat} {f : Bool} {m : Int} (h : Least t l j f m) (hs : ¬ Above t (l.getD j 0)) : Least t l (j + 1) f m := by
  refine ⟨fun hf i hi => ?_, fun hf => ⟨(h.yes hf).1, (h.yes hf).2.1, fun i hi ha => ?_⟩⟩
  · by_cases e : i = j
    · subst e; exact hs
    · exact h.no hf i (by omega)
  · by_cases e : i = j
    · subst e; exact absurd ha hs
    · exact (h.yes hf).2.2 i (by omega) ha
theorem Least.first {t l : List Int} {j : Nat} {m : Int} (h : Least t l j false m) (hj : j < l.length) (hs : Above t (l.getD j 0)) : Least t l (j + 1) true (l.getD j 0) := by
  refine ⟨fun hf => (by cases hf), fun hf => ⟨?_, hs, fun i hi ha => ?_⟩⟩
  · rw [List.getD_eq_getElem?_getD, List.getElem?_eq_getElem hj]; simp
  · by_cases e : i = j
    · subst e; exact Int.le_refl _
    · exact absurd ha (h.no rfl i (by omega))
theorem Least.less {t l : List Int} {j : Nat} {m : Int} (h : Least t l j true m) (hj : j < l.length) (hs : Above t (l.getD j 0)) (hlt : l.getD j 0 < m) : Least t l (j + 1) true (l.getD j 0) := by
  refine ⟨fun hf => (by cases hf), fun hf => ⟨?_, hs, fun i hi ha => ?_⟩⟩
  · rw [List.getD_eq_getElem?_getD, List.getElem?_eq_getElem hj]; simp
  · by_cases e : i = j
    · subst e; exact Int.le_refl _
    · have := (h.yes rfl).2.2 i (by omega) ha; omega
theorem Least.stay {t l : List Int} {j : Nat} {m : Int} (h : Least t l j true m) (hge : ¬ l.getD j 0 < m) : Least t l (j + 1) true m := by
  refine ⟨fun hf => (by cases hf), fun hf => ⟨(h.yes rfl).1, (h.yes rfl).2.1, fun i hi ha => ?_⟩⟩
  by_cases e : i = j
  · subst e; omega
  · exact (h.yes rfl).2.2 i (by omega) ha
set_option maxHeartbeats 1000000 in
theorem refsorted_any (a : Option Addr) (n cap : Nat) (l : List Int) (w : World) (h : IdsAt w a n l) (hn : n ≤ 60) :
    Calls Tryz.prog 89 #[.slice a n cap] w fun e w' => ∃ v, e = .returned v ∧ ∃ S, Made w w' v S ∧ S.Pairwise (· < ·) ∧ (∀ x, x ∈ S ↔ x ∈ l) := by
  obtain ⟨i0, hi, hz0, hz1, hz2⟩ := info_parts' Tryz.infoU64
  have H0 : Hid (IdsAt w a n l) := h
  clear h
  go_enter Tryz.func89, Tryz.ntmps89
  go_wp2
  go_loopw [3, 4] (fun x y wr => ∃ (k : Nat) (t : List Int), t.length = k ∧ y = .int .i64 k ∧ Made w wr x t ∧ Sel t l) (fun _ y _ => n - (intOf y).toNat)
  case atStart => exact ⟨0, [], rfl, rfl, Made.empty w, Sel.nil l⟩
  case round =>
    obtain ⟨k, t, hkt, rfl, G, hS⟩ := hrel
    have hkn : k ≤ n := by have := hS.len; have := H0.out.1; omega
    obtain ⟨ua, uc, hu⟩ := G.shape
    rw [hkt] at hu
    subst hu
    have hsz := G.size
    have hlast : 0 < k → ∃ b o, ua = some ⟨b, o, none⟩ ∧ wr.cell? ⟨b, o + (k - 1), none⟩ = some (.int .u64 (t.getD (k - 1) 0)) := by
      intro h0
      rcases (G.ids hkt.symm).2 with e0 | ⟨b, o, e, hc⟩
      · omega
      · exact ⟨b, o, e, hc (k - 1) (by omega)⟩
    have HG : Hid (Made w wr (.slice ua k uc) t ∧ Sel t l ∧ t.length = k ∧ IdsAt wr a n l) := ⟨G, hS, hkt, H0.out.carry G.below⟩
    clear G hS hkt
    go_wp2
    go_loop [5, 6, 18] (fun f m j => ∃ (jj : Nat) (ff : Bool) (mm : Int), jj ≤ n ∧ j = .int .i64 jj ∧ f = .bool ff ∧ m = .int .u64 mm ∧ Least t l jj ff mm) (fun _ _ j => n - (intOf j).toNat)
    case atStart => exact ⟨0, false, 0, Nat.zero_le _, rfl, rfl, rfl, Least.start t l⟩
    case round =>
      obtain ⟨j, f, m, hj, rfl, rfl, rfl, hL⟩ := hrel
      have HL : Hid (Least t l j f m) := hL
      clear hL
      by_cases hlt : j < n
      · obtain ⟨b, o, ha, hc⟩ : ∃ b o, a = some ⟨b, o, none⟩ ∧ wr.cell? ⟨b, o + j, none⟩ = some (.int .u64 (l.getD j 0)) := by
          rcases HG.out.2.2.2.2 with h0 | ⟨b, o, ha, hc⟩
          · omega
          · exact ⟨b, o, ha, hc j hlt⟩
        have hjl : Hid (j < l.length) := by show _ < _; have := H0.out.1; omega
        obtain ⟨y, hy⟩ : ∃ y, y = l.getD j 0 := ⟨_, rfl⟩
        rw [← hy] at hc
        have HY : Hid (y = l.getD j 0) := hy
        clear hy
        subst ha
        by_cases h0 : k = 0
        · have HA : Hid (Above t y) := fun z hz => by
            have := HG.out.2.2.1
            rw [List.eq_nil_of_length_eq_zero (this.trans h0)] at hz
            simp at hz
          subst h0
          clear hlast
          cases f with
          | false =>
            go_wp2
            go_round
            case rel => exact ⟨j + 1, true, y, by omega, by go_num, rfl, rfl, by rw [HY.out]; exact HL.out.first hjl.out (by rw [← HY.out]; exact HA.out)⟩
            case measure => simp [intOf]; omega
          | true =>
            by_cases hm : y < m
            · go_wp2
              go_round
              case rel => exact ⟨j + 1, true, y, by omega, by go_num, rfl, rfl, by rw [HY.out]; exact HL.out.less hjl.out (by rw [← HY.out]; exact HA.out) (by rw [← HY.out]; exact hm)⟩
              case measure => simp [intOf]; omega
            · go_wp2
              go_round
              case rel => exact ⟨j + 1, true, m, by omega, by go_num, rfl, rfl, HL.out.stay (by rw [← HY.out]; exact hm)⟩
              case measure => simp [intOf]; omega
        · obtain ⟨bu, ou, hua, hcu⟩ := hlast (by omega)
          have hk0 : ((k : Int) == 0) = false := by simp; omega
          obtain ⟨u, hud⟩ : ∃ u, u = t.getD (k - 1) 0 := ⟨_, rfl⟩
          rw [← hud] at hcu
          have HU : Hid (u < y ↔ Above t y) := by rw [hud]; exact above_iff HG.out.2.1.rising HG.out.2.2.1 (by omega) y
          clear hud hlast
          subst hua
          by_cases hel : u < y
          · have HA : Hid (Above t y) := HU.out.1 hel
            cases f with
            | false =>
              go_wp2
              go_round
              case rel => exact ⟨j + 1, true, y, by omega, by go_num, rfl, rfl, by rw [HY.out]; exact HL.out.first hjl.out (by rw [← HY.out]; exact HA.out)⟩
              case measure => simp [intOf]; omega
            | true =>
              by_cases hm : y < m
              · go_wp2
                go_round
                case rel => exact ⟨j + 1, true, y, by omega, by go_num, rfl, rfl, by rw [HY.out]; exact HL.out.less hjl.out (by rw [← HY.out]; exact HA.out) (by rw [← HY.out]; exact hm)⟩
                case measure => simp [intOf]; omega
              · go_wp2
                go_round
                case rel => exact ⟨j + 1, true, m, by omega, by go_num, rfl, rfl, HL.out.stay (by rw [← HY.out]; exact hm)⟩
                case measure => simp [intOf]; omega
          · have HA : Hid (¬ Above t y) := fun q => hel (HU.out.2 q)
            go_wp2
            go_round
            case rel => exact ⟨j + 1, f, m, by omega, by go_num, rfl, rfl, HL.out.skip (by rw [← HY.out]; exact HA.out)⟩
            case measure => simp [intOf]; omega
      · have HJ : Hid (l.length = j) := by show _ = _; have := H0.out.1; omega
        clear hlast
        cases f with
        | false =>
          go_wp2
          go_ret
          refine ⟨_, rfl, t, HG.out.1, HG.out.2.1.rising, HG.out.2.1.done (fun x hx => ?_)⟩
          obtain ⟨i, hi, rfl⟩ := mem_getDr hx
          exact HL.out.no rfl i (by rw [← HJ.out]; exact hi)
        | true =>
          have hrow := HG.out.1.row.alloc (.cells #[.int .u64 m] 58)
          rw [HG.out.2.2.1] at hrow
          go_wp2_with (at_builtin; refine wpList_own_append _ rfl _ _ 27 27 rfl w.heap.size 58 i0 (.int .u64 0) 8 Tryz.underlying27 hi hz0 hz1 hz2 rfl _ _ _ rfl hrow _ 1 [.int .u64 m] rfl (src_u64 wr m _) ?c3 ?c4 ?c5 ?_)
          case c3 => unfold maxLen; omega
          case c4 => omega
          case c5 => first | omega | (simp; omega)
          intro v' w1 ha
          have G' := HG.out.1.app (by rw [HG.out.2.2.1]) ha
          have S' := HG.out.2.1.snoc (HL.out.yes rfl).1 (HL.out.yes rfl).2.1 (fun x hx hab => by
            obtain ⟨i, hi, rfl⟩ := mem_getDr hx
            exact (HL.out.yes rfl).2.2 i (by rw [← HJ.out]; exact hi) hab)
          have hk2 : k + 1 ≤ n := by have := S'.len; have := H0.out.1; have := HG.out.2.2.1; simp at *; omega
          clear ha hrow
          go_wp2
          go_roundw
          case rel => exact ⟨k + 1, t ++ [m], by simp [HG.out.2.2.1], by go_num, G', S'⟩
          case measure => simp [intOf]; omega
end Go.Proofs.YtmajlldfiiokoaaGreatDoor
