/- The answers that the document fixes for layer 2 (awake) are so. -/
import Derived.Test.YtgbdnclolgdojaaCodeIs
import Derived.Test.YtgbdnclolgdojaaCodeKeep
namespace Go.Proofs.Ytgbdnclolgdojaa
open Go.ChangeShapes Go.WideShapes Go.ChangeAt Go.RowKit
set_option linter.unusedVariables false

theorem num300 : numB 300 = [172, 2] := by rw [numB_big 300 (by omega), numB_small (300 / 128) (by omega)]; rfl
theorem num1 : numB (zig (-1)) = [1] := by rw [numB_small _ (by decide)]; rfl
theorem num2 : numB (ByteArray.size ⟨#[97, 98]⟩) = [2] := by rw [numB_small _ (by decide)]; rfl
theorem rd8000 : rdNum 0 0 (List.drop 0 (ByteArray.data ⟨#[128, 0]⟩).toList) = (0, 1, 11) := by decide

theorem all_bytes : (([] ++ numB 300) ++ numB (zig (-1))) ++ (numB (ByteArray.size ⟨#[97, 98]⟩) ++ (ByteArray.data ⟨#[97, 98]⟩).toList) = [172, 2, 1, 2, 97, 98] := by
  rw [num300, num1, num2]; rfl

end Go.Proofs.Ytgbdnclolgdojaa
