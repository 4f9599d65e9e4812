/- What a table has behind some Puts: of each key the last one. -/
import Derived.Test.YtffdknjocmfmfaaTbRow
namespace Go.Proofs.Ytffdknjocmfmfaa
open Go.ChangeShapes Go.WideShapes Go.ChangeAt Go.RowKit
set_option linter.unusedVariables false

theorem keys_nodup {X : List Ep} (h : Asc ltK (X.map Ep.key)) : (X.map Ep.key).Nodup := asc_nodup linK h
theorem key_inj {X : List Ep} (h : (X.map Ep.key).Nodup) {x y : Ep} (hx : x ∈ X) (hy : y ∈ X) (e : x.key = y.key) : x = y := by
  obtain ⟨i, hi, rfl⟩ := mem_getDL ep0 hx
  obtain ⟨j, hj, rfl⟩ := mem_getDL ep0 hy
  have hi' : i < (X.map Ep.key).length := by simpa using hi
  have hj' : j < (X.map Ep.key).length := by simpa using hj
  have := (List.getElem_inj (h₀ := hi') (h₁ := hj') h).1 (by
    rw [List.getElem_map, List.getElem_map, ← getD_getElemL ep0 X i hi, ← getD_getElemL ep0 X j hj]; exact e)
  rw [this]
theorem mem_putE {X : List Ep} (h : Asc ltK (X.map Ep.key)) (x y : Ep) : y ∈ putE X x ↔ y = x ∨ (y ∈ X ∧ y.key ≠ x.key) := by
  unfold putE
  cases hh : hasK (X.map Ep.key) x.key with
  | true =>
    have hm := (hasK_iff _ _).1 hh
    have hit := (lb_hit (ByteArray.empty, (0 : Int)) linK _ h x.key).2 hm
    have hl : lb ltK (X.map Ep.key) x.key < X.length := by simpa using hit.1
    have hk := hit.2
    rw [keys_getD X _ hl] at hk
    simp only [if_true]
    generalize lb ltK (X.map Ep.key) x.key = k at hl hk
    have hnd := keys_nodup h
    constructor
    · intro hy
      obtain ⟨t, ht, rfl⟩ := List.getElem_of_mem hy
      rw [List.getElem_set] at *
      by_cases e : k = t
      · left; simp [e]
      · right
        have htl : t < X.length := by simpa using ht
        simp only [e, if_false]
        refine ⟨List.getElem_mem _, fun q => e ?_⟩
        rw [← hk, getD_getElemL ep0 X k hl] at q
        have hi' : t < (X.map Ep.key).length := by simpa using htl
        have hj' : k < (X.map Ep.key).length := by simpa using hl
        exact ((List.getElem_inj (h₀ := hi') (h₁ := hj') hnd).1 (by rw [List.getElem_map, List.getElem_map]; exact q)).symm
    · rintro (rfl | ⟨h1, h2⟩)
      · exact List.mem_set hl _
      · obtain ⟨t, ht, rfl⟩ := List.getElem_of_mem h1
        have hne : k ≠ t := fun e => h2 (by rw [← hk, getD_getElemL ep0 X k hl]; simp [e])
        exact List.mem_of_getElem? (i := t) (by rw [List.getElem?_set_ne hne, List.getElem?_eq_getElem ht])
  | false =>
    have hm : x.key ∉ X.map Ep.key := fun q => by have := (hasK_iff _ _).2 q; rw [hh] at this; cases this
    simp only [Bool.false_eq_true, if_false]
    generalize lb ltK (X.map Ep.key) x.key = k
    have e : y ∈ X ↔ y ∈ X.take k ∨ y ∈ X.drop k := by rw [← List.mem_append, List.take_append_drop]
    have hne : y ∈ X → y.key ≠ x.key := fun hy q => hm (by rw [← q]; exact List.mem_map_of_mem hy)
    constructor
    · intro hy
      rcases List.mem_append.1 hy with q | q
      · rcases List.mem_append.1 q with q | q
        · exact .inr ⟨e.2 (.inl q), hne (e.2 (.inl q))⟩
        · exact .inl (List.mem_singleton.1 q)
      · exact .inr ⟨e.2 (.inr q), hne (e.2 (.inr q))⟩
    · rintro (rfl | ⟨h1, _⟩)
      · simp
      · rcases e.1 h1 with q | q <;> simp [q]
theorem len_putE (X : List Ep) (x : Ep) : (putE X x).length ≤ X.length + 1 := by
  unfold putE
  split
  · rw [List.length_set]; omega
  · simp; omega
/-- Behind i Puts. -/
structure LInv (kf : Nat → ByteArray × Int) (tf : Nat → Int) (i : Nat) (X : List Ep) : Prop where
  all : ∀ j, j < i → ∃ x ∈ X, x.key = kf j
  each : ∀ x ∈ X, ∃ j, j < i ∧ x.key = kf j ∧ x.till = tf j ∧ ∀ m, j < m → m < i → kf m ≠ kf j
  len : X.length ≤ i
theorem LInv.nil (kf : Nat → ByteArray × Int) (tf : Nat → Int) : LInv kf tf 0 [] := ⟨fun j hj => by omega, (fun x hx => by cases hx), by simp⟩
theorem LInv.put {kf : Nat → ByteArray × Int} {tf : Nat → Int} {i : Nat} {X : List Ep} (h : LInv kf tf i X) (ha : Asc ltK (X.map Ep.key)) {x : Ep} (hk : x.key = kf i) (ht : x.till = tf i) : LInv kf tf (i + 1) (putE X x) := by
  refine ⟨fun j hj => ?_, fun y hy => ?_, by have := len_putE X x; have := h.len; omega⟩
  · by_cases e : kf j = kf i
    · exact ⟨x, (mem_putE ha x x).2 (.inl rfl), by rw [hk, e]⟩
    · have hji : j < i := by
        rcases Nat.lt_or_ge j i with q | q
        · exact q
        · have : j = i := by omega
          rw [this] at e; exact absurd rfl e
      obtain ⟨y, hy, hyk⟩ := h.all j hji
      exact ⟨y, (mem_putE ha x y).2 (.inr ⟨hy, by rw [hyk, hk]; exact e⟩), hyk⟩
  · rcases (mem_putE ha x y).1 hy with rfl | ⟨h1, h2⟩
    · exact ⟨i, by omega, hk, ht, fun m h1 h2 => by omega⟩
    · obtain ⟨j, hj, e1, e2, e3⟩ := h.each y h1
      refine ⟨j, by omega, e1, e2, fun m h3 h4 => ?_⟩
      by_cases q : m = i
      · subst q; rw [← hk, ← e1]; exact Ne.symm h2
      · exact e3 m h3 (by omega)
/-- No later one has its key. -/
def lastB (kf : Nat → ByteArray × Int) (i k : Nat) : Bool := (List.range k).all (fun m => decide (m ≤ i) || !(cmpK (kf m) (kf i) == 0))
theorem lastB_succ (kf : Nat → ByteArray × Int) (i k : Nat) (h : i < k) : lastB kf i (k + 1) = (lastB kf i k && !(cmpK (kf k) (kf i) == 0)) := by
  unfold lastB
  rw [List.range_succ, List.all_append]
  have : ¬ k ≤ i := by omega
  simp [this]
theorem lastB_start (kf : Nat → ByteArray × Int) (i : Nat) : lastB kf i (i + 1) = true := by
  unfold lastB
  rw [List.all_eq_true]
  intro m hm
  have : m ≤ i := by have := List.mem_range.1 hm; omega
  simp [this]
theorem lastB_iff {kf : Nat → ByteArray × Int} {i k : Nat} (h : lastB kf i k = true) : ∀ m, i < m → m < k → kf m ≠ kf i := by
  intro m h1 h2 e
  have := (List.all_eq_true.1 h) m (List.mem_range.2 h2)
  have h3 : ¬ m ≤ i := by omega
  simp [h3, (cmpK_zero (kf m) (kf i)).2 e] at this
/-- Of a key there is one. -/
theorem one_key {X : List Ep} (ha : Asc ltK (X.map Ep.key)) {x : Ep} (hx : x ∈ X) : (X.filter (fun y => cmpK y.key x.key == 0)).length = 1 := by
  have hnd := keys_nodup ha
  clear ha
  induction X with
  | nil => cases hx
  | cons a X ih =>
    obtain ⟨h1, h2⟩ := List.nodup_cons.1 hnd
    by_cases e : a.key = x.key
    · have hz : (cmpK a.key x.key == 0) = true := by simpa using (cmpK_zero a.key x.key).2 e
      have hnil : X.filter (fun y => cmpK y.key x.key == 0) = [] := by
        rw [List.filter_eq_nil_iff]
        intro y hy q
        have : y.key = x.key := (cmpK_zero _ _).1 (by simpa using q)
        exact h1 (by rw [e, ← this]; exact List.mem_map_of_mem hy)
      rw [List.filter_cons, if_pos hz, hnil]; rfl
    · have hz : (cmpK a.key x.key == 0) = false := by
        cases q : (cmpK a.key x.key == 0) with
        | false => rfl
        | true => exact absurd ((cmpK_zero _ _).1 (by simpa using q)) e
      have hx' : x ∈ X := by
        rcases List.mem_cons.1 hx with q | q
        · exact absurd (by rw [q]) e
        · exact q
      rw [List.filter_cons, hz, if_neg (by simp)]
      exact ih hx' h2
end Go.Proofs.Ytffdknjocmfmfaa
