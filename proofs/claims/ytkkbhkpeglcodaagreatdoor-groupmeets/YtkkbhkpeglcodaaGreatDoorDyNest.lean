/- Intervals nest. No program in sight. -/
import Derived.Test.YtkkbhkpeglcodaaGreatDoorDyMath
namespace Go.Proofs.YtkkbhkpeglcodaaGreatDoor
open Go.RowKit
/-- Of two intervals of 2^p and 2^(p + d) cells the first lies within the second, or apart from it. -/
theorem nest_le (i j p d : Nat) : (i + 1) * 2 ^ p ≤ j * 2 ^ (p + d) ∨ (j + 1) * 2 ^ (p + d) ≤ i * 2 ^ p ∨ (j * 2 ^ (p + d) ≤ i * 2 ^ p ∧ (i + 1) * 2 ^ p ≤ (j + 1) * 2 ^ (p + d)) := by
  have hp := pow_pos2 p
  have hd := pow_pos2 d
  rw [Nat.pow_add]
  generalize 2 ^ p = P at *
  generalize 2 ^ d = D at *
  have e1 : j * (P * D) = (j * D) * P := by rw [Nat.mul_comm P D, Nat.mul_assoc]
  have e2 : (j + 1) * (P * D) = ((j + 1) * D) * P := by rw [Nat.mul_comm P D, Nat.mul_assoc]
  rw [e1, e2]
  rcases Nat.lt_or_ge i (j * D) with h | h
  · exact .inl (Nat.mul_le_mul_right _ h)
  · rcases Nat.lt_or_ge i ((j + 1) * D) with h2 | h2
    · exact .inr (.inr ⟨Nat.mul_le_mul_right _ h, Nat.mul_le_mul_right _ h2⟩)
    · exact .inr (.inl (Nat.mul_le_mul_right _ h2))
theorem nests (i j p q : Nat) : (i + 1) * 2 ^ p ≤ j * 2 ^ q ∨ (j + 1) * 2 ^ q ≤ i * 2 ^ p ∨ (j * 2 ^ q ≤ i * 2 ^ p ∧ (i + 1) * 2 ^ p ≤ (j + 1) * 2 ^ q) ∨ (i * 2 ^ p ≤ j * 2 ^ q ∧ (j + 1) * 2 ^ q ≤ (i + 1) * 2 ^ p) := by
  rcases Nat.le_total p q with h | h
  · obtain ⟨d, rfl⟩ : ∃ d, q = p + d := ⟨q - p, by omega⟩
    rcases nest_le i j p d with h | h | h
    · exact .inl h
    · exact .inr (.inl h)
    · exact .inr (.inr (.inl h))
  · obtain ⟨d, rfl⟩ : ∃ d, p = q + d := ⟨p - q, by omega⟩
    rcases nest_le j i q d with h | h | h
    · exact .inr (.inl h)
    · exact .inl h
    · exact .inr (.inr (.inr h))
/-- The first cell of an interval and the last one. -/
def Iv.fst (x : Iv) (L : Int) : Int := if x.good L then x.idx * 2 ^ (L - x.lev).toNat else 0
def Iv.lst (x : Iv) (L : Int) : Int := if x.good L then (x.idx + 1) * 2 ^ (L - x.lev).toNat - 1 else -1
theorem Iv.fst_nat {l i n : Nat} (h1 : l ≤ n) (h2 : n ≤ 8) (h3 : i < 2 ^ l) : (Iv.mk l i).fst n = ((i * 2 ^ (n - l) : Nat) : Int) := by
  unfold Iv.fst; rw [if_pos (Iv.good_of h1 h2 h3)]
  rw [show ((n : Int) - (Iv.mk l i).lev).toNat = n - l by simp]; simp
theorem Iv.lst_nat {l i n : Nat} (h1 : l ≤ n) (h2 : n ≤ 8) (h3 : i < 2 ^ l) : (Iv.mk l i).lst n = (((i + 1) * 2 ^ (n - l) : Nat) : Int) - 1 := by
  unfold Iv.lst; rw [if_pos (Iv.good_of h1 h2 h3)]
  rw [show ((n : Int) - (Iv.mk l i).lev).toNat = n - l by simp]; simp
theorem Iv.ends {x : Iv} {L : Int} (h : x.good L) : 0 ≤ x.fst L ∧ x.fst L ≤ x.lst L ∧ x.lst L ≤ 255 := by
  obtain ⟨l, i, n, rfl, rfl, h1, h2, h3⟩ := Iv.good_nat h
  rw [Iv.fst_nat h1 h2 h3, Iv.lst_nat h1 h2 h3]
  have hb : (i + 1) * 2 ^ (n - l) ≤ 256 := by
    refine Nat.le_trans (Nat.mul_le_mul_right _ h3) ?_
    rw [← pow_split h1]; exact pow_le_256 h2
  have hp := pow_pos2 (n - l)
  have : (i + 1) * 2 ^ (n - l) = i * 2 ^ (n - l) + 2 ^ (n - l) := by rw [Nat.add_mul]; omega
  omega
theorem Iv.nest {x y : Iv} {L : Int} (hx : x.good L) (hy : y.good L) : x.lst L < y.fst L ∨ y.lst L < x.fst L ∨ (x.fst L ≤ y.fst L ∧ y.lst L ≤ x.lst L) ∨ (y.fst L ≤ x.fst L ∧ x.lst L ≤ y.lst L) := by
  obtain ⟨l, i, n, rfl, rfl, h1, h2, h3⟩ := Iv.good_nat hx
  obtain ⟨k, j, m, rfl, hm, g1, g2, g3⟩ := Iv.good_nat hy
  obtain rfl : n = m := by omega
  rw [Iv.fst_nat h1 h2 h3, Iv.lst_nat h1 h2 h3, Iv.fst_nat g1 g2 g3, Iv.lst_nat g1 g2 g3]
  rcases nests i j (n - l) (n - k) with h | h | h | h
  · exact .inl (by omega)
  · exact .inr (.inl (by omega))
  · exact .inr (.inr (.inr (by omega)))
  · exact .inr (.inr (.inl (by omega)))
end Go.Proofs.YtkkbhkpeglcodaaGreatDoor
