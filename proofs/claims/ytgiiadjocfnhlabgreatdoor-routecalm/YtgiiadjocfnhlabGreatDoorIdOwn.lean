/- Whose a place is: the circle's owners. No program in sight. -/
import Derived.Test.YtgiiadjocfnhlabGreatDoorIdCirc
import Derived.Test.YtgiiadjocfnhlabGreatDoorRiseMath
namespace Go.Proofs.YtgiiadjocfnhlabGreatDoor
set_option linter.unusedVariables false
theorem first_ge (P : List Int) (x : Int) (m : Nat) : (∀ j, j < m → P.getD j 0 < x) ∨ ∃ k, k < m ∧ (∀ j, j < k → P.getD j 0 < x) ∧ x ≤ P.getD k 0 := by
  induction m with
  | zero => exact .inl (fun j hj => absurd hj (Nat.not_lt_zero _))
  | succ m ih =>
    rcases ih with h | ⟨k, h1, h2, h3⟩
    · by_cases q : P.getD m 0 < x
      · refine .inl (fun j hj => ?_)
        by_cases e : j = m
        · rw [e]; exact q
        · exact h j (by omega)
      · exact .inr ⟨m, Nat.lt_succ_self _, h, by omega⟩
    · exact .inr ⟨k, by omega, h2, h3⟩
theorem owner_spec (P : List Int) (x : Int) (h0 : 0 < P.length) : (ownerN P x = 0 ∧ ∀ j, j < P.length → P.getD j 0 < x) ∨ ∃ k : Nat, k < P.length ∧ ownerN P x = k ∧ (∀ j, j < k → P.getD j 0 < x) ∧ x ≤ P.getD k 0 := by
  rcases first_ge P x P.length with h | ⟨k, h1, h2, h3⟩
  · exact .inl ⟨owner_miss P x h0 h, h⟩
  · exact .inr ⟨k, h1, owner_hit P x k h1 h2 h3, h2, h3⟩
theorem owner_at {P : List Int} (hp : P.Pairwise (· < ·)) {i : Nat} (hi : i < P.length) : ownerN P (P.getD i 0) = i :=
  owner_hit P _ i hi (fun j hj => rising_getD hp j i hj hi) (Int.le_refl _)
theorem owner_next {P : List Int} (hp : P.Pairwise (· < ·)) (hu : ∀ k : Nat, Plc (P.getD k 0)) {i : Nat} (hi : i < P.length) : ownerN P ((P.getD i 0 + 1) % 18446744073709551616) = ((i + 1) % P.length : Nat) := by
  have hui := hu i
  unfold Plc at hui
  by_cases q : i + 1 < P.length
  · have hr := rising_getD hp i (i + 1) (by omega) q
    have hu1 := hu (i + 1)
    unfold Plc at hu1
    rw [Nat.mod_eq_of_lt q, Int.emod_eq_of_lt (by omega) (by omega)]
    refine owner_hit P _ (i + 1) q (fun j hj => ?_) (by omega)
    by_cases e : j = i
    · rw [e]; omega
    · have := rising_getD hp j i (by omega) hi; omega
  · have e : i + 1 = P.length := by omega
    rw [e, Nat.mod_self]
    by_cases w : P.getD i 0 = 18446744073709551615
    · rw [w]
      have h0 := hu 0
      unfold Plc at h0
      exact owner_hit P _ 0 (by omega) (fun j hj => absurd hj (Nat.not_lt_zero _)) (by simpa using h0.1)
    · rw [Int.emod_eq_of_lt (by omega) (by omega)]
      refine owner_miss P _ (by omega) (fun j hj => ?_)
      by_cases e : j = i
      · rw [e]; omega
      · have := rising_getD hp j i (by omega) hi; omega
theorem owner_iff {P : List Int} (hp : P.Pairwise (· < ·)) (hu : ∀ k : Nat, Plc (P.getD k 0)) (h2 : 2 ≤ P.length) {i : Nat} (hi : i < P.length) {x : Int} (hx : Plc x) :
    ownerN P x = i ↔ (x - P.getD ((i + P.length - 1) % P.length) 0 - 1) % 18446744073709551616 < (P.getD i 0 - P.getD ((i + P.length - 1) % P.length) 0) % 18446744073709551616 := by
  have hui := hu i
  have huq := hu ((i + P.length - 1) % P.length)
  unfold Plc at hui huq hx
  have hsp := owner_spec P x (by omega)
  by_cases q : i = 0
  · subst q
    have e : (0 + P.length - 1) % P.length = P.length - 1 := by rw [Nat.zero_add]; exact Nat.mod_eq_of_lt (by omega)
    rw [e] at huq ⊢
    have hr := rising_getD hp 0 (P.length - 1) (by omega) (by omega)
    rcases hsp with ⟨h1, h3⟩ | ⟨k, h1, h3, h4, h5⟩
    · have := h3 (P.length - 1) (by omega)
      rw [h1]
      constructor
      · intro _; omega
      · intro _; rfl
    · rw [h3]
      have hl : P.getD k 0 ≤ P.getD (P.length - 1) 0 := by
        by_cases e : k = P.length - 1
        · rw [e]; exact Int.le_refl _
        · exact Int.le_of_lt (rising_getD hp k (P.length - 1) (by omega) (by omega))
      by_cases k0 : k = 0
      · subst k0
        constructor
        · intro _; omega
        · intro _; rfl
      · have := h4 0 (by omega)
        constructor
        · intro h; omega
        · intro h; omega
  · have e : (i + P.length - 1) % P.length = i - 1 := by
      have : i + P.length - 1 = (i - 1) + P.length := by omega
      rw [this, Nat.add_mod_right]; exact Nat.mod_eq_of_lt (by omega)
    rw [e] at huq ⊢
    have hr := rising_getD hp (i - 1) i (by omega) hi
    rcases hsp with ⟨h1, h3⟩ | ⟨k, h1, h3, h4, h5⟩
    · have := h3 i hi
      rw [h1]
      constructor
      · intro h; omega
      · intro h; omega
    · rw [h3]
      constructor
      · intro h
        have : k = i := by omega
        subst this
        have := h4 (k - 1) (by omega)
        omega
      · intro h
        by_cases c1 : k < i
        · have hk : P.getD k 0 ≤ P.getD (i - 1) 0 := by
            by_cases e : k = i - 1
            · rw [e]; exact Int.le_refl _
            · exact Int.le_of_lt (rising_getD hp k (i - 1) (by omega) (by omega))
          omega
        · by_cases c2 : i < k
          · have := h4 i c2
            omega
          · have : k = i := by omega
            rw [this]
end Go.Proofs.YtgiiadjocfnhlabGreatDoor
