/- value.predOf, takes, strings.HasPrefix. -/
import Derived.Test.YtakfinccoffplaaDoorValBits
namespace Go.Proofs.YtakfinccoffplaaDoor
open Go.ChangeShapes Go.WideShapes Go.ChangeAt Go.RowKit
set_option linter.unusedVariables false

theorem pred_1 {nm k q : ByteArray} {kd mn mx lo hi : Int} : PredOk ⟨nm, kd, mn, mx⟩ ⟨k, 1, lo, hi, q⟩ ↔ (kd = 1 ∧ mn ≤ lo ∧ lo ≤ hi ∧ hi ≤ mx ∧ q = ByteArray.empty) := by simp [PredOk]
theorem pred_2 {nm k q : ByteArray} {kd mn mx lo hi : Int} : PredOk ⟨nm, kd, mn, mx⟩ ⟨k, 2, lo, hi, q⟩ ↔ (kd = 2 ∧ StrOk q ∧ lo = 0 ∧ hi = 0) := by simp [PredOk]
theorem pred_3 {nm k q : ByteArray} {kd mn mx lo hi : Int} : PredOk ⟨nm, kd, mn, mx⟩ ⟨k, 3, lo, hi, q⟩ ↔ (¬ q = ByteArray.empty ∧ kd = 2 ∧ StrOk q ∧ lo = 0 ∧ hi = 0) := by simp [PredOk]
theorem pred_0 {nm k q : ByteArray} {kd mn mx op lo hi : Int} (h1 : op ≠ 1) (h2 : op ≠ 2) (h3 : op ≠ 3) : PredOk ⟨nm, kd, mn, mx⟩ ⟨k, op, lo, hi, q⟩ ↔ False := by simp [PredOk, h1, h2, h3]

end Go.Proofs.YtakfinccoffplaaDoor
