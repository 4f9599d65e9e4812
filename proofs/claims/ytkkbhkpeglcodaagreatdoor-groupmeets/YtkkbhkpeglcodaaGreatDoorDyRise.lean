/- A greater value has no lesser cell. No program's walk in sight. -/
import Derived.Test.YtkkbhkpeglcodaaGreatDoorDyFine
namespace Go.Proofs.YtkkbhkpeglcodaaGreatDoor
open Go.RowKit
set_option linter.unusedVariables false

def tl2 : List UInt8 → Nat
  | [] => 0
  | [a] => a.toNat * 256
  | a :: b :: _ => a.toNat * 256 + b.toNat
theorem tnum_tl (s : ByteArray) : tnum s = tl2 s.toList := by
  have e : s.toList = s.data.toList := by simp [ByteArray.toList_eq]
  rw [e]
  obtain ⟨⟨l⟩⟩ := s
  unfold tnum
  match l with
  | [] => rfl
  | [a] =>
    rw [dif_pos (by show 0 < 1; omega), dif_neg (by show ¬ 1 < 1; omega)]
    exact Nat.add_zero _
  | a :: b :: r =>
    rw [dif_pos (by show 0 < (r.length + 1) + 1; omega), dif_pos (by show 1 < (r.length + 1) + 1; omega)]
    rfl
theorem tl_mono {x y : List UInt8} (h : Op.bytesLess x y = true) : tl2 x ≤ tl2 y := by
  match x, y with
  | _, [] => simp [Op.bytesLess] at h
  | [], b :: y => simp [tl2]
  | a :: x, b :: y =>
    simp only [Op.bytesLess, Bool.or_eq_true, Bool.and_eq_true, beq_iff_eq, decide_eq_true_eq] at h
    rcases h with h | ⟨rfl, h⟩
    · have h' : a.toNat < b.toNat := by simpa [UInt8.lt_iff_toNat_lt] using h
      have h1 : tl2 (a :: x) ≤ a.toNat * 256 + 255 := by
        match x with
        | [] => simp [tl2]
        | c :: r => have := c.toNat_lt; simp only [tl2]; omega
      have h2 : b.toNat * 256 ≤ tl2 (b :: y) := by
        match y with
        | [] => simp [tl2]
        | c :: r => simp only [tl2]; omega
      omega
    · match x, y with
      | _, [] => simp [Op.bytesLess] at h
      | [], c :: y => simp only [tl2]; omega
      | c :: x, d :: y =>
        simp only [Op.bytesLess, Bool.or_eq_true, Bool.and_eq_true, beq_iff_eq, decide_eq_true_eq] at h
        simp only [tl2]
        rcases h with h | ⟨rfl, h⟩
        · have h' : c.toNat < d.toNat := by simpa [UInt8.lt_iff_toNat_lt] using h
          omega
        · omega
theorem tnum_le {s t : ByteArray} (h : (Op.bytesLess s.toList t.toList || s.toList == t.toList) = true) : tnum s ≤ tnum t := by
  rw [tnum_tl, tnum_tl]
  simp only [Bool.or_eq_true, beq_iff_eq] at h
  rcases h with h | h
  · exact tl_mono h
  · rw [h]; exact Nat.le_refl _
theorem rise_num {a : At} {v u : Vl} {n : Nat} (hn : n ≤ 8) (hk : a.kind = 1) (h1 : -2147483648 ≤ a.mn) (h2 : a.mx ≤ 2147483648) (h3 : a.mn ≤ v.num) (h4 : v.num ≤ u.num) (h5 : u.num ≤ a.mx) : 0 ≤ cellOf a v n ∧ cellOf a v n ≤ cellOf a u n := by
  rw [cellOf_num (by omega) hk ⟨h1, h2, h3, by omega⟩, cellOf_num (by omega) hk ⟨h1, h2, by omega, h5⟩, Int.toNat_natCast]
  have p1 := (prod_bd (x := v.num - a.mn) (n := n) (by omega) (by omega) hn).1
  refine ⟨Int.ediv_nonneg p1 (by omega), ?_⟩
  refine Int.ediv_le_ediv (by omega) ?_
  rw [powI]
  exact Int.mul_le_mul_of_nonneg_right (by omega) (Int.natCast_nonneg _)
theorem rise_text {a : At} {v u : Vl} {n : Nat} (hn : n ≤ 8) (hk : ¬ a.kind = 1) (h : tnum v.str ≤ tnum u.str) : 0 ≤ cellOf a v n ∧ cellOf a v n ≤ cellOf a u n := by
  rw [cellOf_text (by omega) hk, cellOf_text (by omega) hk, Int.toNat_natCast]
  have := Nat.div_le_div_right (c := 2 ^ (16 - n)) h
  generalize tnum v.str / 2 ^ (16 - n) = p at *
  generalize tnum u.str / 2 ^ (16 - n) = q at *
  omega
end Go.Proofs.YtkkbhkpeglcodaaGreatDoor
