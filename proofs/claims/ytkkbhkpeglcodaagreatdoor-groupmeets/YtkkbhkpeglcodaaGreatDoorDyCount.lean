/- How often an interval of a chain is one of a cover. No program in sight. -/
import Derived.Test.YtkkbhkpeglcodaaGreatDoorDyNest
import Derived.Test.YtkkbhkpeglcodaaGreatDoorDyHalf
namespace Go.Proofs.YtkkbhkpeglcodaaGreatDoor
open Go.RowKit

def chainOf (c L : Int) : List Iv := if (Iv.mk L c).good L then chain c.toNat L.toNat else []
def coverOf (lo hi L : Int) : List Iv := if (Iv.mk L lo).good L ∧ (Iv.mk L hi).good L then cover lo.toNat hi.toNat L.toNat else []
theorem good_cell {c L : Int} : (Iv.mk L c).good L ↔ 0 ≤ L ∧ L ≤ 8 ∧ 0 ≤ c ∧ c < 2 ^ L.toNat := by
  unfold Iv.good; simp; omega
theorem chainOf_nat {c n : Nat} (hn : n ≤ 8) (h : c < 2 ^ n) : chainOf c n = chain c n := by
  unfold chainOf; rw [if_pos (Iv.good_of (Nat.le_refl _) hn h)]; simp
theorem coverOf_nat {lo hi n : Nat} (hn : n ≤ 8) (h1 : lo < 2 ^ n) (h2 : hi < 2 ^ n) : coverOf lo hi n = cover lo hi n := by
  unfold coverOf; rw [if_pos ⟨Iv.good_of (Nat.le_refl _) hn h1, Iv.good_of (Nat.le_refl _) hn h2⟩]; simp
theorem chainOf_len (c L : Int) : (chainOf c L).length ≤ 9 := by
  unfold chainOf; split
  · rename_i h; rw [chain_len]; have := h.1; have := h.2.1; omega
  · simp

/-- How many pairs are alike. -/
def cnt (ch l : List Iv) : Nat := (ch.map fun x => l.count x).sum
theorem cnt_nil (ch : List Iv) : cnt ch [] = 0 := by
  induction ch with
  | nil => rfl
  | cons x ch ih => unfold cnt at *; rw [List.map_cons, List.sum_cons, ih]; rfl
theorem cnt_cons (ch : List Iv) (y : Iv) (l : List Iv) : cnt ch (y :: l) = ch.count y + cnt ch l := by
  induction ch with
  | nil => rfl
  | cons x ch ih =>
    unfold cnt at *
    rw [List.map_cons, List.sum_cons, ih, List.map_cons, List.sum_cons, List.count_cons, List.count_cons]
    by_cases e : x = y
    · subst e; simp; omega
    · have h1 : (x == y) = false := by simpa using e
      have h2 : (y == x) = false := by simpa using fun h => e h.symm
      simp [h1, h2]; omega
theorem chain_nodup (c n : Nat) : (chain c n).Nodup := by
  unfold chain List.Nodup
  rw [List.pairwise_map]
  refine List.Pairwise.imp ?_ (List.nodup_range (n := n + 1))
  intro a b hne h
  have e1 : ((a : Nat) : Int) = b := congrArg Iv.lev h
  exact hne (by omega)
theorem chain_mem (c n l i : Nat) : (Iv.mk l i) ∈ chain c n ↔ l ≤ n ∧ c / 2 ^ (n - l) = i := by
  unfold chain
  rw [List.mem_map]
  constructor
  · rintro ⟨k, hk, e⟩
    rw [List.mem_range] at hk
    have e1 : ((k : Nat) : Int) = l := congrArg Iv.lev e
    have e2 : ((c / 2 ^ (n - k) : Nat) : Int) = i := congrArg Iv.idx e
    obtain rfl : k = l := by omega
    exact ⟨by omega, by omega⟩
  · rintro ⟨h1, h2⟩
    exact ⟨l, List.mem_range.2 (by omega), by rw [h2]⟩
theorem chain_count (c n l i : Nat) (h : l ≤ n) : (chain c n).count (Iv.mk l i) = if c / 2 ^ (n - l) = i then 1 else 0 := by
  split
  · rename_i e
    exact List.Nodup.count (chain_nodup c n) |>.trans (by rw [if_pos ((chain_mem c n l i).2 ⟨h, e⟩)])
  · rename_i e
    exact List.count_eq_zero.2 fun hm => e ((chain_mem c n l i).1 hm).2
theorem cover_cnt (c hi n : Nat) : ∀ f lo, hi + 1 - lo ≤ f → cnt (chain c n) (cover lo hi n) = if lo ≤ c ∧ c ≤ hi then 1 else 0 := by
  intro f
  induction f with
  | zero =>
    intro lo h
    rw [cover_end lo hi n (by omega), cnt_nil, if_neg (by omega)]
  | succ f ih =>
    intro lo h
    by_cases hl : lo ≤ hi
    · have hp := pow_pos2 (n - lv lo hi n)
      have hf := nx_fits lo hi n hl
      rw [cover_step lo hi n hl, cnt_cons, ih _ (by omega)]
      rw [show (nx lo hi n) = Iv.mk (lv lo hi n : Nat) ((lo / 2 ^ (n - lv lo hi n) : Nat) : Int) from rfl, chain_count _ _ _ _ (lv_le lo hi n)]
      have key : c / 2 ^ (n - lv lo hi n) = lo / 2 ^ (n - lv lo hi n) ↔ lo ≤ c ∧ c < lo + 2 ^ (n - lv lo hi n) := by
        generalize 2 ^ (n - lv lo hi n) = P at *
        rw [Nat.div_eq_iff hp, hf.1]
        constructor
        · intro h; omega
        · intro h; omega
      by_cases hk : lo ≤ c ∧ c < lo + 2 ^ (n - lv lo hi n)
      · rw [if_pos (key.2 hk), if_neg (by omega), if_pos (by omega)]
      · rw [if_neg (fun h => hk (key.1 h))]
        by_cases h2 : lo + 2 ^ (n - lv lo hi n) ≤ c ∧ c ≤ hi
        · rw [if_pos h2, if_pos (by omega)]
        · rw [if_neg h2, if_neg (by omega)]
    · rw [cover_end lo hi n (by omega), cnt_nil, if_neg (by omega)]
theorem cnt_of (c L : Int) (lo hi n : Nat) (hL : L = n) (hn : n ≤ 8) (hh : hi < 2 ^ n) : cnt (chainOf c L) (cover lo hi n) = if (lo : Int) ≤ c ∧ c ≤ hi then 1 else 0 := by
  subst hL
  by_cases hg : (Iv.mk n c).good n
  · obtain ⟨_, _, h1, h2⟩ := good_cell.1 hg
    obtain ⟨k, rfl⟩ : ∃ k : Nat, c = k := ⟨c.toNat, by omega⟩
    have hk : k < 2 ^ n := by
      have : ((k : Nat) : Int) < ((2 ^ n : Nat) : Int) := by rw [Int.natCast_pow]; simpa using h2
      omega
    rw [chainOf_nat hn hk, cover_cnt k hi n _ lo (Nat.le_refl _)]
    by_cases hx : lo ≤ k ∧ k ≤ hi
    · rw [if_pos hx, if_pos (by omega)]
    · rw [if_neg hx, if_neg (by omega)]
  · have e : chainOf c n = [] := if_neg hg
    rw [e]
    rw [if_neg]
    · rfl
    · intro hx
      refine hg (good_cell.2 ⟨by omega, by omega, by omega, ?_⟩)
      have : c < ((2 ^ n : Nat) : Int) := by omega
      rw [Int.natCast_pow] at this; simpa using this
end Go.Proofs.YtkkbhkpeglcodaaGreatDoor
