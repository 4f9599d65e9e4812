/- Covers and chains, interval by interval. No program in sight. -/
import Derived.Test.YtiafamfnbpbfiaaDoorDyCount
namespace Go.Proofs.YtiafamfnbpbfiaaDoor
open Go.RowKit

theorem cover_pos (lo hi n : Nat) (h : lo ≤ hi) : 0 < (cover lo hi n).length := by rw [cover_step lo hi n h]; simp
theorem coverOf_end (lo hi L : Int) (h : hi < lo) : coverOf lo hi L = [] := by
  unfold coverOf; split
  · rename_i hg; have := (good_cell.1 hg.2).2.2.1; exact cover_end _ _ _ (by omega)
  · rfl
theorem not_cover {lo hi L : Int} (h : ¬ (0 ≤ L ∧ L ≤ 8 ∧ 0 ≤ lo ∧ lo ≤ hi ∧ hi < 2 ^ L.toNat)) : coverOf lo hi L = [] := by
  by_cases h1 : hi < lo
  · exact coverOf_end lo hi L h1
  · unfold coverOf
    rw [if_neg]
    rintro ⟨g1, g2⟩
    have a := good_cell.1 g1
    have b := good_cell.1 g2
    exact h ⟨a.1, a.2.1, a.2.2.1, by omega, b.2.2.2⟩
/-- What is left of the cover from the interval number k on. -/
theorem drop_cover {l : List Iv} {k x hi n : Nat} (h : l.drop k = cover x hi n) (hk : k < l.length) : x ≤ hi ∧ l.getD k iv0 = nx x hi n ∧ l.drop (k + 1) = cover (x + 2 ^ (n - lv x hi n)) hi n := by
  have hx : x ≤ hi := by
    apply Classical.byContradiction; intro hh
    rw [cover_end x hi n (by omega)] at h
    have : (l.drop k).length = 0 := by rw [h]; rfl
    simp at this; omega
  rw [cover_step x hi n hx] at h
  refine ⟨hx, ?_, ?_⟩
  · have : (l.drop k)[0]? = some (nx x hi n) := by rw [h]; rfl
    simp at this
    simp [List.getD, this]
  · have : (l.drop k).drop 1 = cover (x + 2 ^ (n - lv x hi n)) hi n := by rw [h]; rfl
    simpa using this
theorem cnt_take (ch l : List Iv) (k : Nat) (hk : k < ch.length) : cnt (ch.take (k + 1)) l = cnt (ch.take k) l + l.count (ch.getD k iv0) := by
  rw [List.take_succ_eq_append_getElem hk]
  unfold cnt
  rw [List.map_append, List.sum_append]
  simp [hk]
theorem count_take (l : List Iv) (x : Iv) (k : Nat) (hk : k < l.length) : (l.take (k + 1)).count x = (l.take k).count x + if x = l.getD k iv0 then 1 else 0 := by
  rw [List.take_succ_eq_append_getElem hk, List.count_append]
  have e : l.getD k iv0 = l[k] := by simp [List.getD, hk]
  rw [e, List.count_singleton]
  by_cases h : x = l[k]
  · subst h; simp
  · have h' : (l[k] == x) = false := by simpa using fun hh => h hh.symm
    simp [h, h']
theorem cnt_le (ch l : List Iv) : cnt ch l ≤ ch.length * l.length := by
  induction ch with
  | nil => simp [cnt]
  | cons x ch ih =>
    have h1 : cnt (x :: ch) l = l.count x + cnt ch l := by simp [cnt]
    have h2 := List.count_le_length (a := x) (l := l)
    rw [h1, List.length_cons, Nat.add_mul]; omega
end Go.Proofs.YtiafamfnbpbfiaaDoor
