/- The answers that the document fixes for layer 2 (awake) are so. -/
import Derived.Test.YticdikllfkfkfaaDoorCodeIs
import Derived.Test.YticdikllfkfkfaaDoorCodeKeep
namespace Go.Proofs.YticdikllfkfkfaaDoor
open Go.ChangeShapes Go.WideShapes Go.ChangeAt Go.RowKit
set_option linter.unusedVariables false

theorem num300 : numB 300 = [172, 2] := by rw [numB_big 300 (by omega), numB_small (300 / 128) (by omega)]; rfl
theorem num1 : numB (zig (-1)) = [1] := by rw [numB_small _ (by decide)]; rfl
theorem num2 : numB (ByteArray.size ⟨#[97, 98]⟩) = [2] := by rw [numB_small _ (by decide)]; rfl
theorem rd8000 : rdNum 0 0 (List.drop 0 (ByteArray.data ⟨#[128, 0]⟩).toList) = (0, 1, 11) := by decide

theorem all_bytes : (([] ++ numB 300) ++ numB (zig (-1))) ++ (numB (ByteArray.size ⟨#[97, 98]⟩) ++ (ByteArray.data ⟨#[97, 98]⟩).toList) = [172, 2, 1, 2, 97, 98] := by
  rw [num300, num1, num2]; rfl

theorem cawake_any (w : World) :
    Calls Tryd.prog 10 #[] w fun e w' => e = .returned (.bool true) ∧ Below w.heap.size w w' := by
  have hW0 := wr_new w.heap.size w (Nat.le_refl _)
  have b0 : Below w.heap.size w (w.alloc (.cells #[.slice none 0 0] 54)) := (Below.refl _ _).alloc (Nat.le_refl _) _
  go_enter Tryd.func10, Tryd.ntmps10
  go_wp2_with fail
  refine (wnumber_int w.heap.size w.heap.size _ [] 300 300 _ hW0 (by simp) rfl (by omega) (by simp)).mono ?_
  rintro e w1 ⟨rfl, v1, hW1, hK1⟩
  have b1 := hK1.below hW0 b0 (by simp)
  have s1 : w.heap.size < w1.heap.size := hW1.lt
  clear hK1
  go_wp2_with fail
  refine (wint_any w.heap.size w.heap.size v1 _ (-1) _ hW1 (by omega) (by omega) (by omega) (by simp [num300])).mono ?_
  rintro e w2 ⟨rfl, v2, hW2, hK2⟩
  have b2 := hK2.below hW1 b1 (by omega)
  have s2 : w.heap.size < w2.heap.size := hW2.lt
  clear hK2 hW1
  go_wp2_with fail
  refine (wtext_any w.heap.size w.heap.size v2 _ ⟨#[97, 98]⟩ _ hW2 (by omega) (by decide) (by simp [num300, num1])).mono ?_
  rintro e w3 ⟨rfl, v3, hW3, hK3⟩
  have b3 := hK3.below hW2 b2 (by omega)
  have s3 : w.heap.size < w3.heap.size := hW3.lt
  clear hK3 hW2
  rw [all_bytes] at hW3
  go_wp2_with fail
  refine (open_any _ _).mono ?_
  rintro e w4 ⟨rfl, rfl⟩
  have hR4 := rd_new w3 ⟨#[128, 0]⟩
  have hW4 := hW3.alloc (.cells #[.string ⟨#[128, 0]⟩, .int .i64 0, .int .i64 0] 62)
  have b4 := b3.alloc (Nat.le_of_lt s3) (.cells #[.string ⟨#[128, 0]⟩, .int .i64 0, .int .i64 0] 62)
  have hq : w3.heap.size ≠ w.heap.size := by omega
  have hqr : v3.ownBlock ≠ some w3.heap.size := fun e => by have := (hW3.row.lt _ e).2; omega
  go_wp2_with fail
  refine (rnumber_any w3.heap.size _ 0 0 1 11 _ hR4 (by decide) (by decide) rd8000).mono ?_
  rintro e w5 ⟨rfl, hR5, hS5⟩
  have hW5 := hW4.adds hq hqr hS5.adds
  have b5 := hS5.adds.below (Nat.le_of_lt s3) (by simp; omega) b4
  have s5 : w.heap.size < w5.heap.size := hW5.lt
  clear hW4 hS5 hR4 b4
  go_wp2_with fail
  refine (bytes_any w.heap.size w.heap.size v3 _ w5 hW5).mono ?_
  rintro e w6 ⟨rfl, rfl⟩
  go_wp2_with fail
  refine (err_fault w3.heap.size _ (0 + 1) 11 _ hR5 (by omega)).mono ?_
  rintro e w7 ⟨g, rfl, hF, hg, hR7, hA7⟩
  have b7 := hA7.below (Nat.le_of_lt s3) (by omega) b5
  go_wp2_with fail
  obtain ⟨g', at7, hv, hF'⟩ := hF
  have hgg : g' = g := by simpa using hv.symm
  subst hgg
  refine (is_fault g' 11 _ _ _ hF').mono ?_
  rintro e w8 ⟨rfl, rfl⟩
  go_wp2_with fail
  refine (at_any w3.heap.size _ _ _ _ hR7).mono ?_
  rintro e w9 ⟨rfl, rfl⟩
  go_wp2
  go_ret
  exact ⟨rfl, b7⟩
end Go.Proofs.YticdikllfkfkfaaDoor
