/- Cells: within bounds, rising, finer with more levels. No program's walk in sight. -/
import Derived.Test.YtkkbhkpeglcodaaGreatDoorDyCell
namespace Go.Proofs.YtkkbhkpeglcodaaGreatDoor
open Go.RowKit
set_option linter.unusedVariables false

theorem powI (n : Nat) : (2 : Int) ^ n = ((2 ^ n : Nat) : Int) := by simp
theorem cellOf_lo (a : At) (v : Vl) (n : Nat) (hn : n ≤ 8) : -1 ≤ cellOf a v n := by
  by_cases hk : a.kind = 1
  · by_cases hr : -2147483648 ≤ a.mn ∧ a.mx ≤ 2147483648 ∧ a.mn ≤ v.num ∧ v.num ≤ a.mx
    · rw [cellOf_num (by omega) hk hr]
      have := Int.ediv_nonneg (prod_bd (x := v.num - a.mn) (n := n) (by omega) (by omega) hn).1 (show 0 ≤ a.mx - a.mn + 1 by omega)
      rw [Int.toNat_natCast]; omega
    · rw [cellOf_out (by omega) hk hr]; omega
  · rw [cellOf_text (by omega) hk]
    generalize tnum v.str / 2 ^ (16 - ((n : Int)).toNat) = q
    omega
theorem cellOf_hi (a : At) (v : Vl) (n : Nat) (hn : n ≤ 8) : cellOf a v n < ((2 ^ n : Nat) : Int) := by
  have hp := pow_pos2 n
  by_cases hk : a.kind = 1
  · by_cases hr : -2147483648 ≤ a.mn ∧ a.mx ≤ 2147483648 ∧ a.mn ≤ v.num ∧ v.num ≤ a.mx
    · rw [cellOf_num (by omega) hk hr, Int.toNat_natCast, powI]
      generalize 2 ^ n = P at *
      refine Int.ediv_lt_of_lt_mul (by omega) ?_
      rw [Int.mul_comm]
      exact Int.mul_lt_mul_of_pos_left (by omega) (by omega)
    · rw [cellOf_out (by omega) hk hr]; omega
  · rw [cellOf_text (by omega) hk, Int.toNat_natCast]
    have h1 := tnum_lt v.str
    have : tnum v.str / 2 ^ (16 - n) < 2 ^ n := by
      rw [Nat.div_lt_iff_lt_mul (pow_pos2 _), ← Nat.pow_add, show n + (16 - n) = 16 by omega]
      exact h1
    omega
theorem cellOf_fine (a : At) (v : Vl) (n : Nat) (hn : n ≤ 7) : (cellOf a v n < 0 ↔ cellOf a v ((n : Int) + 1) < 0) ∧ (0 ≤ cellOf a v n → cellOf a v ((n : Int) + 1) / 2 = cellOf a v n) := by
  have e : (n : Int) + 1 = ((n + 1 : Nat) : Int) := by omega
  rw [e]
  by_cases hk : a.kind = 1
  · by_cases hr : -2147483648 ≤ a.mn ∧ a.mx ≤ 2147483648 ∧ a.mn ≤ v.num ∧ v.num ≤ a.mx
    · have h1 := (prod_bd (x := v.num - a.mn) (n := n) (by omega) (by omega) (by omega)).1
      rw [cellOf_num (by omega) hk hr, cellOf_num (by omega) hk hr, Int.toNat_natCast, Int.toNat_natCast]
      have h2 : (v.num - a.mn) * 2 ^ (n + 1) = (v.num - a.mn) * 2 ^ n * 2 := by rw [Int.pow_succ, Int.mul_assoc]
      rw [h2]
      have hD : 0 < a.mx - a.mn + 1 := by omega
      generalize (v.num - a.mn) * 2 ^ n = X at *
      generalize a.mx - a.mn + 1 = D at *
      have q1 := Int.ediv_nonneg h1 (show 0 ≤ D by omega)
      have q2 := Int.ediv_nonneg (show 0 ≤ X * 2 by omega) (show 0 ≤ D by omega)
      refine ⟨by omega, fun _ => ?_⟩
      rw [Int.ediv_ediv, if_neg (fun h => absurd h.1 (by omega)), Int.sub_zero, Int.mul_ediv_mul_of_pos_left _ _ (by omega)]
    · rw [cellOf_out (by omega) hk hr, cellOf_out (by omega) hk hr]
      exact ⟨by omega, fun h => absurd h (by omega)⟩
  · rw [cellOf_text (by omega) hk, cellOf_text (by omega) hk, Int.toNat_natCast, Int.toNat_natCast]
    have : tnum v.str / 2 ^ (16 - (n + 1)) / 2 = tnum v.str / 2 ^ (16 - n) := by
      have e2 : 2 ^ (16 - n) = 2 ^ (16 - (n + 1)) * 2 := by rw [← Nat.pow_succ]; congr 1; omega
      rw [Nat.div_div_eq_div_mul, e2]
    generalize tnum v.str / 2 ^ (16 - n) = q at *
    generalize tnum v.str / 2 ^ (16 - (n + 1)) = q2 at *
    exact ⟨by omega, fun _ => by omega⟩
end Go.Proofs.YtkkbhkpeglcodaaGreatDoor
