/- Intervals of powers of two, chains and covers, as lists. No program in sight. -/
import Derived.Test.YtkkbhkpeglcodaaGreatDoorRowMath
namespace Go.Proofs.YtkkbhkpeglcodaaGreatDoor
open Go.RowKit

structure Iv where
  lev : Int
  idx : Int
deriving DecidableEq

def iv0 : Iv := ⟨0, 0⟩
def Iv.cells (x : Iv) : List Value := [.int .i64 x.lev, .int .i64 x.idx]
theorem Iv.cells_len (x : Iv) : x.cells.length = 2 := rfl
def Iv.val (x : Iv) : Value := .agg #[.int .i64 x.lev, .int .i64 x.idx]

/-- Is there such an interval? -/
def Iv.good (x : Iv) (L : Int) : Prop := 0 ≤ L ∧ L ≤ 8 ∧ 0 ≤ x.lev ∧ x.lev ≤ L ∧ 0 ≤ x.idx ∧ x.idx < 2 ^ x.lev.toNat
instance (x : Iv) (L : Int) : Decidable (x.good L) := by unfold Iv.good; infer_instance
def Iv.goodB (x : Iv) (L : Int) : Bool := decide (x.good L)

/-- A good interval, by naturals. -/
theorem Iv.good_nat {x : Iv} {L : Int} (h : x.good L) : ∃ l i n : Nat, x = ⟨l, i⟩ ∧ L = n ∧ l ≤ n ∧ n ≤ 8 ∧ i < 2 ^ l := by
  obtain ⟨h1, h2, h3, h4, h5, h6⟩ := h
  refine ⟨x.lev.toNat, x.idx.toNat, L.toNat, ?_, by omega, by omega, by omega, ?_⟩
  · cases x; simp at *; omega
  · have : ((x.idx.toNat : Nat) : Int) < ((2 ^ x.lev.toNat : Nat) : Int) := by
      rw [Int.natCast_pow]; simp; omega
    omega
theorem Iv.good_of {l i n : Nat} (h1 : l ≤ n) (h2 : n ≤ 8) (h3 : i < 2 ^ l) : (Iv.mk l i).good n := by
  refine ⟨by omega, by omega, by simp, by simp; omega, by simp, ?_⟩
  have : ((i : Nat) : Int) < ((2 ^ l : Nat) : Int) := by omega
  rw [Int.natCast_pow] at this
  simpa using this

theorem pow_le_256 {n : Nat} (h : n ≤ 8) : 2 ^ n ≤ 256 := Nat.pow_le_pow_right (by omega) h
theorem pow_pos2 (n : Nat) : 0 < 2 ^ n := Nat.pow_pos (by omega)
theorem pow_split {l n : Nat} (h : l ≤ n) : 2 ^ n = 2 ^ l * 2 ^ (n - l) := by rw [← Nat.pow_add]; congr 1; omega

/-- The chain of a cell. -/
def chain (c n : Nat) : List Iv := (List.range (n + 1)).map fun l => ⟨(l : Nat), ((c / 2 ^ (n - l) : Nat) : Int)⟩
theorem chain_len (c n : Nat) : (chain c n).length = n + 1 := by simp [chain]
theorem chain_get (c n l : Nat) (h : l ≤ n) : (chain c n).getD l iv0 = ⟨(l : Nat), ((c / 2 ^ (n - l) : Nat) : Int)⟩ := by
  simp [chain, List.getD, List.getElem?_range (show l < n + 1 by omega)]

/-- Does the interval of level l from lo on end within hi? -/
def fits (lo hi n l : Nat) : Bool := lo / 2 ^ (n - l) * 2 ^ (n - l) == lo && decide ((lo / 2 ^ (n - l) + 1) * 2 ^ (n - l) ≤ hi + 1)
/-- The least level from k on, of f more. -/
def least (lo hi n : Nat) : Nat → Nat → Nat
  | 0, k => k
  | f + 1, k => if fits lo hi n k then k else least lo hi n f (k + 1)
def lv (lo hi n : Nat) : Nat := least lo hi n n 0
theorem least_le (lo hi n f k : Nat) : least lo hi n f k ≤ k + f := by
  induction f generalizing k with
  | zero => simp [least]
  | succ f ih => simp only [least]; split; · omega
                 · have := ih (k + 1); omega
theorem lv_le (lo hi n : Nat) : lv lo hi n ≤ n := by have := least_le lo hi n n 0; unfold lv; omega
theorem fits_last (lo hi n : Nat) (h : lo ≤ hi) : fits lo hi n n = true := by simp [fits]; omega
theorem least_fits (lo hi n f k : Nat) (h : lo ≤ hi) (hk : k + f = n) : fits lo hi n (least lo hi n f k) = true := by
  induction f generalizing k with
  | zero => simp only [least]; obtain rfl : k = n := by omega
            exact fits_last lo hi k h
  | succ f ih => simp only [least]; split; · assumption
                 · exact ih (k + 1) (by omega)
theorem lv_fits (lo hi n : Nat) (h : lo ≤ hi) : fits lo hi n (lv lo hi n) = true := least_fits lo hi n n 0 h (by omega)
theorem least_min (lo hi n f k j : Nat) (h1 : k ≤ j) (h2 : j < least lo hi n f k) : fits lo hi n j = false := by
  induction f generalizing k with
  | zero => simp only [least] at h2; omega
  | succ f ih =>
    simp only [least] at h2
    split at h2
    · omega
    · rename_i hh
      by_cases e : k = j
      · subst e; simpa using hh
      · exact ih (k + 1) (by omega) h2
theorem lv_min (lo hi n j : Nat) (h : j < lv lo hi n) : fits lo hi n j = false := least_min lo hi n n 0 j (Nat.zero_le _) h
/-- The level is told by what it does. -/
theorem lv_uniq (lo hi n l : Nat) (h : lo ≤ hi) (h1 : fits lo hi n l = true) (h2 : ∀ j, j < l → fits lo hi n j = false) : lv lo hi n = l := by
  rcases Nat.lt_trichotomy (lv lo hi n) l with h3 | h3 | h3
  · have := h2 _ h3; rw [lv_fits lo hi n h] at this; simp at this
  · exact h3
  · have := lv_min lo hi n l h3; rw [h1] at this; simp at this

/-- The interval that comes next. -/
def nx (lo hi n : Nat) : Iv := ⟨(lv lo hi n : Nat), ((lo / 2 ^ (n - lv lo hi n) : Nat) : Int)⟩
/-- The cover, of at most f intervals. -/
def cov (hi n : Nat) : Nat → Nat → List Iv
  | 0, _ => []
  | f + 1, lo => if lo ≤ hi then nx lo hi n :: cov hi n f (lo + 2 ^ (n - lv lo hi n)) else []
def cover (lo hi n : Nat) : List Iv := cov hi n (hi + 1 - lo) lo
theorem nx_fits (lo hi n : Nat) (h : lo ≤ hi) : lo / 2 ^ (n - lv lo hi n) * 2 ^ (n - lv lo hi n) = lo ∧ lo + 2 ^ (n - lv lo hi n) ≤ hi + 1 := by
  have := lv_fits lo hi n h
  simp [fits] at this
  refine ⟨this.1, ?_⟩
  have h2 := this.2
  rw [Nat.add_mul, this.1] at h2
  omega
theorem cov_more (hi n f lo : Nat) (h : hi + 1 - lo ≤ f) : cov hi n (f + 1) lo = cov hi n f lo := by
  induction f generalizing lo with
  | zero => simp [cov]; omega
  | succ f ih =>
    rw [cov]
    by_cases hl : lo ≤ hi
    · rw [if_pos hl]
      conv => rhs; rw [cov, if_pos hl]
      rw [ih]
      have := pow_pos2 (n - lv lo hi n); omega
    · rw [if_neg hl]
      conv => rhs; rw [cov, if_neg hl]
theorem cov_enough (hi n f lo : Nat) (h : hi + 1 - lo ≤ f) : cov hi n f lo = cover lo hi n := by
  obtain ⟨d, rfl⟩ : ∃ d, f = hi + 1 - lo + d := ⟨f - (hi + 1 - lo), by omega⟩
  induction d with
  | zero => rfl
  | succ d ih => rw [← ih (by omega)]; exact cov_more hi n (hi + 1 - lo + d) lo (by omega)
theorem cover_step (lo hi n : Nat) (h : lo ≤ hi) : cover lo hi n = nx lo hi n :: cover (lo + 2 ^ (n - lv lo hi n)) hi n := by
  unfold cover
  obtain ⟨f, hf⟩ : ∃ f, hi + 1 - lo = f + 1 := ⟨hi - lo, by omega⟩
  rw [hf, cov, if_pos h]
  congr 1
  exact cov_enough hi n f _ (by have := pow_pos2 (n - lv lo hi n); omega)
theorem cover_end (lo hi n : Nat) (h : hi < lo) : cover lo hi n = [] := by
  unfold cover
  rw [show hi + 1 - lo = 0 by omega, cov]
end Go.Proofs.YtkkbhkpeglcodaaGreatDoor
