/- Of rising places each place has one owner: it lies behind the one ahead of that. No program in sight. -/
import Derived.Test.YtkmlebikcllkpaaRefOwner
namespace Go.Proofs.Ytkmlebikcllkpaa
set_option linter.unusedVariables false

theorem in_arc (x a b : Int) (hx : 0 ≤ x ∧ x ≤ 18446744073709551615) (ha : 0 ≤ a ∧ a ≤ 18446744073709551615) (hb : 0 ≤ b ∧ b ≤ 18446744073709551615) (h : a ≠ b) :
    inB x a b = decide (if a < b then a < x ∧ x ≤ b else a < x ∨ x ≤ b) := by
  by_cases hxa : x = a
  · subst hxa
    have h1 : (x == b) = false := beq_eq_false_iff_ne.2 h
    have : inB x x b = false := by rw [inB, h1]; simp
    rw [this]; symm; rw [decide_eq_false_iff_not]; split <;> omega
  · rw [in_of x a b hxa h, decide_eq_decide]; unfold dist; split <;> omega

theorem part_one (S : List Int) (x : Int) (k : Nat) (hp : S.Pairwise (· < ·)) (hu : InU S) (hx : 0 ≤ x ∧ x ≤ 18446744073709551615) (hk : k < S.length) :
    inB x (S.getD ((k + S.length - 1) % S.length) 0) (S.getD k 0) = decide (ownerN S x = k) := by
  have hc := inU_getD hu k
  rcases Nat.eq_zero_or_pos k with rfl | hk0
  · have e : (0 + S.length - 1) % S.length = S.length - 1 := by rw [Nat.zero_add]; exact Nat.mod_eq_of_lt (by omega)
    rw [e]
    have hpr := inU_getD hu (S.length - 1)
    by_cases h1 : S.length = 1
    · have : inB x (S.getD (S.length - 1) 0) (S.getD 0 0) = true := by rw [h1]; simp [inB]
      rw [this]; symm; rw [decide_eq_true_iff]
      by_cases hge : x ≤ S.getD 0 0
      · exact owner_hit S x 0 hk (fun j hj => by omega) hge
      · exact owner_miss S x hk (fun j hj => by obtain rfl : j = 0 := by omega
                                                omega)
    · have hlt := rising_getD hp 0 (S.length - 1) (by omega) (by omega)
      rw [in_arc x _ _ hx hpr hc (by omega), decide_eq_decide, if_neg (by omega)]
      constructor
      · rintro (h | h)
        · refine owner_miss S x hk (fun j hj => ?_)
          by_cases q : j = S.length - 1
          · subst q; exact h
          · have := rising_getD hp j (S.length - 1) (by omega) (by omega); omega
        · exact owner_hit S x 0 hk (fun j hj => by omega) h
      · intro ho
        by_cases h0 : x ≤ S.getD 0 0
        · exact .inr h0
        · refine .inl ?_
          by_cases hl : S.getD (S.length - 1) 0 < x
          · exact hl
          · exfalso
            -- some first place that isn't below x, and it isn't the first
            have : ∀ n, n < S.length → (∀ j, j ≤ n → S.getD j 0 < x) := by
              intro n
              induction n with
              | zero => intro hn j hj; obtain rfl : j = 0 := by omega
                        omega
              | succ n ih =>
                intro hn j hj
                by_cases q : j ≤ n
                · exact ih (by omega) j q
                · obtain rfl : j = n + 1 := by omega
                  by_cases r : S.getD (n + 1) 0 < x
                  · exact r
                  · have := owner_hit S x (n + 1) hn (fun i hi => ih (by omega) i (by omega)) (by omega)
                    omega
            have := this (S.length - 1) (by omega) (S.length - 1) (Nat.le_refl _)
            omega
  · have e : (k + S.length - 1) % S.length = k - 1 := by
      rw [show k + S.length - 1 = (k - 1) + S.length by omega, Nat.add_mod_right]; exact Nat.mod_eq_of_lt (by omega)
    rw [e]
    have hpr := inU_getD hu (k - 1)
    have hlt := rising_getD hp (k - 1) k (by omega) hk
    rw [in_arc x _ _ hx hpr hc (by omega), decide_eq_decide, if_pos hlt]
    have hbelow : S.getD (k - 1) 0 < x → ∀ j, j < k → S.getD j 0 < x := by
      intro h j hj
      by_cases q : j = k - 1
      · subst q; exact h
      · have := rising_getD hp j (k - 1) (by omega) (by omega); omega
    constructor
    · rintro ⟨h1, h2⟩
      exact owner_hit S x k hk (hbelow h1) h2
    · intro ho
      -- who is the owner?
      have key : ∀ n, n ≤ k → ∀ j, j < n → S.getD j 0 < x := by
        intro n
        induction n with
        | zero => intro _ j hj; omega
        | succ n ih =>
          intro hn j hj
          by_cases q : j < n
          · exact ih (by omega) j q
          · obtain rfl : j = n := by omega
            by_cases r : S.getD j 0 < x
            · exact r
            · have := owner_hit S x j (by omega) (fun i hi => ih (by omega) i hi) (by omega)
              omega
      refine ⟨key k (Nat.le_refl _) (k - 1) (by omega), ?_⟩
      by_cases r : x ≤ S.getD k 0
      · exact r
      · exfalso
        have all : ∀ n, n < S.length → ∀ j, j ≤ n → S.getD j 0 < x := by
          intro n
          induction n with
          | zero => intro hn j hj; exact key k (Nat.le_refl _) j (by omega)
          | succ n ih =>
            intro hn j hj
            by_cases q : j ≤ n
            · exact ih (by omega) j q
            · obtain rfl : j = n + 1 := by omega
              by_cases r2 : S.getD (n + 1) 0 < x
              · exact r2
              · have h := owner_hit S x (n + 1) hn (fun i hi => ih (by omega) i (by omega)) (by omega)
                rw [ho] at h
                have : k = n + 1 := by omega
                subst this
                omega
        have := owner_miss S x (by omega) (fun j hj => all (S.length - 1) (by omega) j (by omega))
        omega

theorem owner_rng (S : List Int) (x : Int) (h : 0 < S.length) : ∃ o : Nat, ownerN S x = o ∧ o < S.length := by
  cases S with
  | nil => simp at h
  | cons a S =>
    refine ⟨((a :: S).findIdx? fun y => decide (x ≤ y)).getD 0, rfl, ?_⟩
    cases hf : (a :: S).findIdx? fun y => decide (x ≤ y) with
    | none => exact h
    | some i => exact (List.findIdx?_eq_some_iff_getElem.1 hf).1
end Go.Proofs.Ytkmlebikcllkpaa
