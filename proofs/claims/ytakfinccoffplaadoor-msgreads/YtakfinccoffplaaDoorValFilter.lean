/- value.Schema.Filter: is a filter one of the schema's? -/
import Derived.Test.YtakfinccoffplaaDoorValCheck
namespace Go.Proofs.YtakfinccoffplaaDoor
open Go.ChangeShapes Go.WideShapes Go.ChangeAt Go.RowKit
set_option linter.unusedVariables false

/-- One predicate of a filter is right. -/
def PGood (az : List At) (ps : List Pd) (i : Nat) : Prop := (∀ j, j < i → (ps.getD j pd0).name ≠ (ps.getD i pd0).name) ∧ ∃ k, FindAt az (ps.getD i pd0).name k ∧ PredOk (az.getD k at0) (ps.getD i pd0)
theorem again_take {ps : List Pd} {k : Nat} (hk : k < ps.length) (x : ByteArray) : (∃ j, j < (ps.take k).length ∧ ((ps.take k).getD j pd0).name = x) ↔ ∃ j, j < k ∧ (ps.getD j pd0).name = x := by
  have hl : (ps.take k).length = k := by simp; omega
  rw [hl]
  constructor
  · rintro ⟨j, h1, h2⟩; rw [getD_take _ _ _ _ h1] at h2; exact ⟨j, h1, h2⟩
  · rintro ⟨j, h1, h2⟩; refine ⟨j, h1, ?_⟩; rw [getD_take _ _ _ _ h1]; exact h2

end Go.Proofs.YtakfinccoffplaaDoor
