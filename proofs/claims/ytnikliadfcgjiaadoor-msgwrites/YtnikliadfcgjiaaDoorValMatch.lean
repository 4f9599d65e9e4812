/- value.Schema.Match: does a filter take an event? -/
import Derived.Test.YtnikliadfcgjiaaDoorValFilter
namespace Go.Proofs.YtnikliadfcgjiaaDoor
open Go.ChangeShapes Go.WideShapes Go.ChangeAt Go.RowKit
set_option linter.unusedVariables false

end Go.Proofs.YtnikliadfcgjiaaDoor
