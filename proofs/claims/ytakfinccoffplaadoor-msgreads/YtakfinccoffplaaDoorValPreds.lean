/- wigwaglaw05.Preds: a filter of at most six predicates, and the same as the document's. -/
import Derived.Test.YtakfinccoffplaaDoorValAttrs
import Derived.Deep.AppendSrc
import Derived.Deep.RegionHeld3
import Derived.Deep.RegionLaw
import Derived.Deep.AppendLies
namespace Go.Proofs.YtakfinccoffplaaDoor
open Go.ChangeShapes Go.WideShapes Go.ChangeAt Go.RowKit
set_option linter.unusedVariables false

def cutP (a : Pd) : Pd := ⟨cut a.name 20, a.op, a.lo, a.hi, cut a.str 50⟩
theorem cutP_snoc (t : List Pd) (i : Nat) (hi : i < t.length) : ((t.take (i + 1)).map cutP).flatMap Pd.cells = ((t.take i).map cutP).flatMap Pd.cells ++ (cutP (t.getD i pd0)).cells := by
  rw [List.take_succ_eq_append_getElem hi, List.map_append, List.flatMap_append]
  simp [hi]
end Go.Proofs.YtakfinccoffplaaDoor
