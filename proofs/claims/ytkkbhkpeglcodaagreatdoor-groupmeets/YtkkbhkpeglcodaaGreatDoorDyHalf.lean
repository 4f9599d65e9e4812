/- A cover by halves is the cover from left to right; how many intervals it has. No program in sight. -/
import Derived.Test.YtkkbhkpeglcodaaGreatDoorDyMath
namespace Go.Proofs.YtkkbhkpeglcodaaGreatDoor
open Go.RowKit

/-- By halves: the part of the range that lies in the interval number i of 2^m cells. -/
def hv (lo hi n : Nat) : Nat → Nat → List Iv
  | 0, i => if hi < i ∨ i < lo then [] else [⟨(n : Nat), (i : Nat)⟩]
  | m + 1, i => if hi < i * 2 ^ (m + 1) ∨ i * 2 ^ (m + 1) + 2 ^ (m + 1) ≤ lo then [] else
      if lo ≤ i * 2 ^ (m + 1) ∧ i * 2 ^ (m + 1) + 2 ^ (m + 1) ≤ hi + 1 then [⟨((n - (m + 1) : Nat) : Int), (i : Nat)⟩] else
      hv lo hi n m (2 * i) ++ hv lo hi n m (2 * i + 1)

theorem hv_out (lo hi n m i : Nat) (h : hi < i * 2 ^ m ∨ i * 2 ^ m + 2 ^ m ≤ lo) : hv lo hi n m i = [] := by
  cases m with
  | zero => simp only [hv]; rw [if_pos]; simp at h; omega
  | succ m => simp only [hv]; rw [if_pos h]
theorem hv_full (lo hi n m i : Nat) (h1 : lo ≤ i * 2 ^ m) (h2 : i * 2 ^ m + 2 ^ m ≤ hi + 1) : hv lo hi n m i = [⟨((n - m : Nat) : Int), (i : Nat)⟩] := by
  have := pow_pos2 m
  cases m with
  | zero => simp only [hv]; rw [if_neg]; · rfl
            · simp at h1 h2; omega
  | succ m => simp only [hv]; rw [if_neg (by omega), if_pos ⟨h1, h2⟩]
theorem hv_part (lo hi n m i : Nat) (h0 : i * 2 ^ (m + 1) ≤ hi) (h1 : lo < i * 2 ^ (m + 1) + 2 ^ (m + 1)) (h2 : ¬ (lo ≤ i * 2 ^ (m + 1) ∧ i * 2 ^ (m + 1) + 2 ^ (m + 1) ≤ hi + 1)) :
    hv lo hi n (m + 1) i = hv lo hi n m (2 * i) ++ hv lo hi n m (2 * i + 1) := by
  simp only [hv]; rw [if_neg (by omega), if_neg h2]

theorem two_mul_pow (i m : Nat) : 2 * i * 2 ^ m = i * 2 ^ (m + 1) := by rw [Nat.pow_succ]; rw [Nat.mul_comm 2 i, Nat.mul_assoc, Nat.mul_comm 2]
theorem mid_eq (i m : Nat) : (2 * i + 1) * 2 ^ m = i * 2 ^ (m + 1) + 2 ^ m := by rw [Nat.add_mul, two_mul_pow, Nat.one_mul]
theorem pow_dbl (m : Nat) : 2 ^ (m + 1) = 2 ^ m + 2 ^ m := by rw [Nat.pow_succ]; omega

theorem fits_false_of {lo hi n l : Nat} (h : ¬ (lo / 2 ^ (n - l) * 2 ^ (n - l) = lo ∧ lo + 2 ^ (n - l) ≤ hi + 1)) : fits lo hi n l = false := by
  rw [Bool.eq_false_iff]; intro hh
  simp [fits] at hh
  refine h ⟨hh.1, ?_⟩
  have h2 := hh.2
  rw [Nat.add_mul, hh.1] at h2
  omega
theorem fits_true_of {lo hi n l : Nat} (h1 : lo / 2 ^ (n - l) * 2 ^ (n - l) = lo) (h2 : lo + 2 ^ (n - l) ≤ hi + 1) : fits lo hi n l = true := by
  simp [fits]; refine ⟨h1, ?_⟩; rw [Nat.add_mul, h1]; omega
/-- A cell that lies inside an interval and isn't its first one begins no greater interval. -/
theorem not_mult {c i m k : Nat} (hm : m ≤ k) (h1 : i * 2 ^ m < c) (h2 : c < i * 2 ^ m + 2 ^ m) : c / 2 ^ k * 2 ^ k ≠ c := by
  intro h
  rw [show k = m + (k - m) by omega, Nat.pow_add] at h
  generalize 2 ^ (k - m) = q at h
  have hp := pow_pos2 m
  generalize 2 ^ m = p at *
  have e : c = (c / (p * q) * q) * p := by rw [Nat.mul_assoc, Nat.mul_comm q p]; exact h.symm
  generalize c / (p * q) * q = r at e
  subst e
  have : i < r := Nat.lt_of_mul_lt_mul_right h1
  have h3 : r * p < (i + 1) * p := by rw [Nat.add_mul]; omega
  have := Nat.lt_of_mul_lt_mul_right h3
  omega

theorem halves (lo hi n : Nat) : ∀ m i, m ≤ n → lo < i * 2 ^ m + 2 ^ m → i * 2 ^ m ≤ hi → lo ≤ hi →
    (∀ j, j < n - m → fits (max lo (i * 2 ^ m)) hi n j = false) →
    cover (max lo (i * 2 ^ m)) hi n = hv lo hi n m i ++ cover (i * 2 ^ m + 2 ^ m) hi n := by
  intro m
  induction m with
  | zero =>
    intro i hmn h1 h2 h3 hj
    have hm : max lo (i * 2 ^ 0) = i * 2 ^ 0 := by simp at *; omega
    rw [hm] at hj ⊢
    have hl : lv (i * 2 ^ 0) hi n = n := lv_uniq _ _ _ _ (by simpa using h2) (fits_last _ _ _ (by simpa using h2)) (by simpa using hj)
    rw [cover_step _ _ _ (by simpa using h2), hv_full _ _ _ _ _ (by simp at *; omega) (by simp at *; omega)]
    simp only [Nat.pow_zero, Nat.mul_one] at hl
    simp [nx, hl]
  | succ m ih =>
    intro i hmn h1 h2 h3 hj
    by_cases hf : lo ≤ i * 2 ^ (m + 1) ∧ i * 2 ^ (m + 1) + 2 ^ (m + 1) ≤ hi + 1
    · have hm : max lo (i * 2 ^ (m + 1)) = i * 2 ^ (m + 1) := by omega
      rw [hm] at hj ⊢
      have hd : i * 2 ^ (m + 1) / 2 ^ (m + 1) = i := Nat.mul_div_cancel _ (pow_pos2 _)
      have en : n - (n - (m + 1)) = m + 1 := by omega
      have hl : lv (i * 2 ^ (m + 1)) hi n = n - (m + 1) := lv_uniq _ _ _ _ h2 (fits_true_of (by rw [en, hd]) (by rw [en]; exact hf.2)) hj
      rw [cover_step _ _ _ h2, hv_full _ _ _ _ _ hf.1 hf.2]
      simp only [nx, hl, en, hd, List.cons_append, List.nil_append]
    · rw [hv_part _ _ _ _ _ h2 h1 hf]
      have hp := pow_pos2 m
      have hd := pow_dbl m
      have hlow : ∀ j, j < n - m → fits (max lo (i * 2 ^ (m + 1))) hi n j = false := by
        intro j hjl
        by_cases e : j < n - (m + 1)
        · exact hj j e
        · obtain rfl : j = n - (m + 1) := by omega
          have en : n - (n - (m + 1)) = m + 1 := by omega
          refine fits_false_of ?_
          rw [en]
          rintro ⟨g1, g2⟩
          by_cases ha : lo ≤ i * 2 ^ (m + 1)
          · rw [show max lo (i * 2 ^ (m + 1)) = i * 2 ^ (m + 1) by omega] at g2
            exact hf ⟨ha, g2⟩
          · rw [show max lo (i * 2 ^ (m + 1)) = lo by omega] at g1
            exact not_mult (Nat.le_refl _) (by omega) h1 g1
      have hmid := mid_eq i m
      have hleft := two_mul_pow i m
      have hR : lo < (2 * i + 1) * 2 ^ m → (2 * i + 1) * 2 ^ m ≤ hi → cover ((2 * i + 1) * 2 ^ m) hi n = hv lo hi n m (2 * i + 1) ++ cover (i * 2 ^ (m + 1) + 2 ^ (m + 1)) hi n := by
        intro g1 g2
        have hmx : max lo ((2 * i + 1) * 2 ^ m) = (2 * i + 1) * 2 ^ m := by omega
        have := ih (2 * i + 1) (by omega) (by omega) g2 h3 (fun j hjl => by
          rw [hmx]
          refine fits_false_of ?_
          rintro ⟨g3, _⟩
          exact not_mult (i := i) (m := m + 1) (by omega) (by omega) (by omega) g3)
        rw [hmx] at this
        rw [this]
        congr 2
        omega
      by_cases hl : lo < (2 * i + 1) * 2 ^ m
      · have hL := ih (2 * i) (by omega) (by omega) (by omega) h3 (by rw [hleft]; exact hlow)
        rw [hleft] at hL
        rw [hL, List.append_assoc]
        congr 1
        rw [show i * 2 ^ (m + 1) + 2 ^ m = (2 * i + 1) * 2 ^ m by omega]
        by_cases hh : (2 * i + 1) * 2 ^ m ≤ hi
        · exact hR hl hh
        · rw [hv_out _ _ _ _ _ (.inl (by omega)), cover_end _ _ _ (by omega), cover_end _ _ _ (by omega)]; rfl
      · rw [hv_out lo hi n m (2 * i) (.inr (by omega)), List.nil_append]
        have hmx : max lo ((2 * i + 1) * 2 ^ m) = lo := by omega
        have hmx2 : max lo (i * 2 ^ (m + 1)) = lo := by omega
        have := ih (2 * i + 1) (by omega) (by omega) (by omega) h3 (fun j hjl => by rw [hmx, ← hmx2]; exact hlow j hjl)
        rw [hmx] at this
        rw [hmx2, this]
        congr 2
        omega
theorem cover_halves (lo hi n : Nat) (h : lo ≤ hi) (hh : hi < 2 ^ n) : cover lo hi n = hv lo hi n n 0 := by
  have := halves lo hi n n 0 (Nat.le_refl _) (by omega) (by omega) h (fun j hj => by omega)
  simp only [Nat.zero_mul, Nat.zero_add, Nat.max_zero] at this
  rw [this, cover_end _ _ _ hh, List.append_nil]

/-- One end of the range lies at the interval's own. -/
theorem hv_one (lo hi n : Nat) : ∀ m i, (lo ≤ i * 2 ^ m ∨ i * 2 ^ m + 2 ^ m ≤ hi + 1) → (hv lo hi n m i).length ≤ max 1 m := by
  intro m
  induction m with
  | zero => intro i _; simp only [hv]; split <;> simp
  | succ m ih =>
    intro i h
    by_cases ho : hi < i * 2 ^ (m + 1) ∨ i * 2 ^ (m + 1) + 2 ^ (m + 1) ≤ lo
    · rw [hv_out _ _ _ _ _ ho]; simp
    by_cases hf : lo ≤ i * 2 ^ (m + 1) ∧ i * 2 ^ (m + 1) + 2 ^ (m + 1) ≤ hi + 1
    · rw [hv_full _ _ _ _ _ hf.1 hf.2]; simp
    rw [hv_part _ _ _ _ _ (by omega) (by omega) hf, List.length_append]
    have hp := pow_pos2 m
    have hd := pow_dbl m
    have hmid := mid_eq i m
    have hleft := two_mul_pow i m
    have a1 := ih (2 * i)
    have a2 := ih (2 * i + 1)
    rcases h with h | h
    · by_cases hb : i * 2 ^ (m + 1) + 2 ^ m ≤ hi + 1
      · rw [hv_full lo hi n m (2 * i) (by omega) (by omega)]
        by_cases hc : hi + 1 = i * 2 ^ (m + 1) + 2 ^ m
        · rw [hv_out lo hi n m (2 * i + 1) (.inl (by omega))]; simp
        · by_cases hm : m = 0
          · subst hm; simp at *; omega
          · have := a2 (.inl (by omega)); simp; omega
      · rw [hv_out lo hi n m (2 * i + 1) (.inl (by omega))]
        have := a1 (.inl (by omega)); simp; omega
    · by_cases hb : lo ≤ i * 2 ^ (m + 1) + 2 ^ m
      · rw [hv_full lo hi n m (2 * i + 1) (by omega) (by omega)]
        by_cases hc : lo = i * 2 ^ (m + 1) + 2 ^ m
        · rw [hv_out lo hi n m (2 * i) (.inr (by omega))]; simp
        · by_cases hm : m = 0
          · subst hm; simp at *; omega
          · have := a1 (.inr (by omega)); simp; omega
      · rw [hv_out lo hi n m (2 * i) (.inr (by omega))]
        have := a2 (.inr (by omega)); simp; omega
theorem hv_len (lo hi n : Nat) : ∀ m i, (hv lo hi n m i).length ≤ max 1 (2 * m - 2) := by
  intro m
  induction m with
  | zero => intro i; simp only [hv]; split <;> simp
  | succ m ih =>
    intro i
    by_cases ho : hi < i * 2 ^ (m + 1) ∨ i * 2 ^ (m + 1) + 2 ^ (m + 1) ≤ lo
    · rw [hv_out _ _ _ _ _ ho]; simp
    by_cases hf : lo ≤ i * 2 ^ (m + 1) ∧ i * 2 ^ (m + 1) + 2 ^ (m + 1) ≤ hi + 1
    · rw [hv_full _ _ _ _ _ hf.1 hf.2]; simp; omega
    rw [hv_part _ _ _ _ _ (by omega) (by omega) hf, List.length_append]
    have hp := pow_pos2 m
    have hd := pow_dbl m
    have hmid := mid_eq i m
    have hleft := two_mul_pow i m
    by_cases h1 : i * 2 ^ (m + 1) + 2 ^ m ≤ lo
    · rw [hv_out lo hi n m (2 * i) (.inr (by omega))]
      have := ih (2 * i + 1); simp; omega
    by_cases h2 : hi < i * 2 ^ (m + 1) + 2 ^ m
    · rw [hv_out lo hi n m (2 * i + 1) (.inl (by omega))]
      have := ih (2 * i); simp; omega
    have a1 := hv_one lo hi n m (2 * i) (.inr (by omega))
    have a2 := hv_one lo hi n m (2 * i + 1) (.inl (by omega))
    by_cases hm : m = 0
    · subst hm; simp at *; omega
    · omega
theorem cover_few (lo hi n : Nat) (h : lo ≤ hi) (hh : hi < 2 ^ n) : (cover lo hi n).length ≤ max 1 (2 * n - 2) := by
  rw [cover_halves lo hi n h hh]; exact hv_len lo hi n n 0
end Go.Proofs.YtkkbhkpeglcodaaGreatDoor
