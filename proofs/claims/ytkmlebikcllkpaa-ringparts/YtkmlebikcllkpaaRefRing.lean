/- The document's answers of layer 1 (wigwagref01) are the same plain functions. -/
import Derived.Test.YtkmlebikcllkpaaRing
namespace Go.Proofs.Ytkmlebikcllkpaa
open Go.ChangeShapes Go.WideShapes Go.ChangeAt Go.RowKit

theorem refdist_any (a b : Int) (w : World) (ha : 0 ≤ a ∧ a ≤ 18446744073709551615) (hb : 0 ≤ b ∧ b ≤ 18446744073709551615) :
    Calls Try.prog 11 #[.int .u64 a, .int .u64 b] w fun e w' => e = .returned (.int .u64 (dist a b)) ∧ w' = w := by
  obtain ⟨ha0, ha1⟩ := ha
  obtain ⟨hb0, hb1⟩ := hb
  by_cases h : a ≤ b
  · go_enter Try.func11, Try.ntmps11
    go_wp2
    go_ret
    refine ⟨ret_i ?_, rfl⟩
    unfold dist
    first | omega | (show (b - a) % 18446744073709551616 = _; omega)
  · go_enter Try.func11, Try.ntmps11
    go_wp2
    go_ret
    refine ⟨ret_i ?_, rfl⟩
    unfold dist
    omega

theorem refin_any (x a b : Int) (w : World) (hx : 0 ≤ x ∧ x ≤ 18446744073709551615) (ha : 0 ≤ a ∧ a ≤ 18446744073709551615) (hb : 0 ≤ b ∧ b ≤ 18446744073709551615) :
    Calls Try.prog 13 #[.int .u64 x, .int .u64 a, .int .u64 b] w fun e w' => e = .returned (.bool (inB x a b)) ∧ w' = w := by
  obtain ⟨hx0, hx1⟩ := hx
  obtain ⟨ha0, ha1⟩ := ha
  obtain ⟨hb0, hb1⟩ := hb
  by_cases h1 : (a == b) = true
  · go_enter Try.func13, Try.ntmps13
    go_wp2
    go_ret
    exact ⟨ret_b (by rw [inB, h1]; rfl), rfl⟩
  · have h1 : (a == b) = false := by simpa using h1
    have n1 : a ≠ b := beq_eq_false_iff_ne.1 h1
    have key : inB x a b = decide (if a < b then a < x ∧ x ≤ b else a < x ∨ x ≤ b) := by
      by_cases hxa : x = a
      · subst hxa
        have : inB x x b = false := by rw [inB, h1]; simp
        rw [this]; symm; rw [decide_eq_false_iff_not]; split <;> omega
      · rw [in_of x a b hxa n1, decide_eq_decide]; unfold dist; split <;> omega
    have key' : Hid (inB x a b = decide (if a < b then a < x ∧ x ≤ b else a < x ∨ x ≤ b)) := key
    clear key n1
    by_cases h2 : a < b
    · by_cases h3 : a < x
      · by_cases h4 : x ≤ b
        all_goals
          go_enter Try.func13, Try.ntmps13
          go_wp2
          go_ret
          exact ⟨ret_b (by rw [key'.out]; simp [h2, h3, h4]), rfl⟩
      · go_enter Try.func13, Try.ntmps13
        go_wp2
        go_ret
        exact ⟨ret_b (by rw [key'.out]; symm; rw [decide_eq_false_iff_not, if_pos h2]; omega), rfl⟩
    · by_cases h3 : a < x
      · go_enter Try.func13, Try.ntmps13
        go_wp2
        go_ret
        exact ⟨ret_b (by rw [key'.out]; simp [h2, h3]), rfl⟩
      · by_cases h4 : x ≤ b
        all_goals
          go_enter Try.func13, Try.ntmps13
          go_wp2
          go_ret
          exact ⟨ret_b (by rw [key'.out]; simp [h2, h3, h4]), rfl⟩

theorem refwithin_any (x a b : Int) (w : World) (hx : 0 ≤ x ∧ x ≤ 18446744073709551615) (ha : 0 ≤ a ∧ a ≤ 18446744073709551615) (hb : 0 ≤ b ∧ b ≤ 18446744073709551615) :
    Calls Try.prog 15 #[.int .u64 x, .int .u64 a, .int .u64 b] w fun e w' => e = .returned (.bool (withinB x a b)) ∧ w' = w := by
  obtain ⟨hx0, hx1⟩ := hx
  obtain ⟨ha0, ha1⟩ := ha
  obtain ⟨hb0, hb1⟩ := hb
  by_cases h1 : (a == b) = true
  · by_cases h2 : (x != a) = true
    · go_enter Try.func15, Try.ntmps15
      go_wp2
      go_ret
      exact ⟨ret_b (by rw [withinB, h1, h2]; rfl), rfl⟩
    · have h2 : (x != a) = false := by simpa using h2
      go_enter Try.func15, Try.ntmps15
      go_wp2
      go_ret
      exact ⟨ret_b (by rw [withinB, h1, h2]; rfl), rfl⟩
  · have h1 : (a == b) = false := by simpa using h1
    have n1 : a ≠ b := beq_eq_false_iff_ne.1 h1
    have key : withinB x a b = decide (if a < b then a < x ∧ x < b else a < x ∨ x < b) := by
      by_cases hxa : x = a
      · subst hxa
        have : withinB x x b = false := by rw [withinB]; simp
        rw [this]; symm; rw [decide_eq_false_iff_not]; split <;> omega
      · rw [within_of x a b hxa n1, decide_eq_decide]; unfold dist; split <;> omega
    have key' : Hid (withinB x a b = decide (if a < b then a < x ∧ x < b else a < x ∨ x < b)) := key
    clear key n1
    by_cases h2 : a < b
    · by_cases h3 : a < x
      · by_cases h4 : x < b
        all_goals
          go_enter Try.func15, Try.ntmps15
          go_wp2
          go_ret
          exact ⟨ret_b (by rw [key'.out]; simp [h2, h3, h4]), rfl⟩
      · go_enter Try.func15, Try.ntmps15
        go_wp2
        go_ret
        exact ⟨ret_b (by rw [key'.out]; symm; rw [decide_eq_false_iff_not, if_pos h2]; omega), rfl⟩
    · by_cases h3 : a < x
      · go_enter Try.func15, Try.ntmps15
        go_wp2
        go_ret
        exact ⟨ret_b (by rw [key'.out]; simp [h2, h3]), rfl⟩
      · by_cases h4 : x < b
        all_goals
          go_enter Try.func15, Try.ntmps15
          go_wp2
          go_ret
          exact ⟨ret_b (by rw [key'.out]; simp [h2, h3, h4]), rfl⟩

theorem refstart_any (x n : Int) (w : World) :
    Calls Try.prog 17 #[.int .u64 x, .int .i64 n] w fun e w' => e = .returned (.int .u64 (startN x n)) ∧ w' = w := by
  by_cases h0 : n < 0
  · go_enter Try.func17, Try.ntmps17
    go_wp2
    go_ret
    exact ⟨ret_i (start_out x n (Or.inl h0)).symm, rfl⟩
  · by_cases h1 : 63 < n
    · go_enter Try.func17, Try.ntmps17
      go_wp2
      go_ret
      exact ⟨ret_i (start_out x n (Or.inr h1)).symm, rfl⟩
    · obtain ⟨m, rfl⟩ := Int.eq_ofNat_of_zero_le (show 0 ≤ n by omega)
      have hm : m ≤ 63 := by omega
      clear h0 h1
      go_enter Try.func17, Try.ntmps17
      go_wp2
      go_loop [5, 6] (fun p i => ∃ k : Nat, k ≤ m ∧ i = .int .i64 k ∧ p = .int .u64 (2 ^ k)) (fun _ i => m - (intOf i).toNat)
      case atStart => exact ⟨0, Nat.zero_le _, rfl, rfl⟩
      case round =>
        obtain ⟨k, hk, rfl, rfl⟩ := hrel
        by_cases hlt : k < m
        · go_wp2
          go_round
          case rel =>
            refine ⟨k + 1, by omega, by go_num, ?_⟩
            have a := pow_lt_M (k + 1) (by omega)
            have b := pow_pos_k (k + 1)
            have c : IntKind.u64.wrap (2 * 2 ^ k) = 2 ^ (k + 1) := by
              show (2 * 2 ^ k) % 18446744073709551616 = (2 : Int) ^ (k + 1)
              rw [Int.pow_succ] at a b ⊢
              generalize (2 : Int) ^ k = y at *
              omega
            rw [c]
          case measure => simp [intOf]; omega
        · have e : k = m := by omega
          subst e
          go_wp2
          go_ret
          refine ⟨ret_i ?_, rfl⟩
          rw [start_in x k (by omega) (by omega)]
          rfl
end Go.Proofs.Ytkmlebikcllkpaa
