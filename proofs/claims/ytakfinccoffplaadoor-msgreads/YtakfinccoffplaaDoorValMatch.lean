/- value.Schema.Match: does a filter take an event? -/
import Derived.Test.YtakfinccoffplaaDoorValFilter
namespace Go.Proofs.YtakfinccoffplaaDoor
open Go.ChangeShapes Go.WideShapes Go.ChangeAt Go.RowKit
set_option linter.unusedVariables false

end Go.Proofs.YtakfinccoffplaaDoor
