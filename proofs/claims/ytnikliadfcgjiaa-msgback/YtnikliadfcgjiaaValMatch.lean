/- value.Schema.Match: does a filter take an event? -/
import Derived.Test.YtnikliadfcgjiaaValFilter
namespace Go.Proofs.Ytnikliadfcgjiaa
open Go.ChangeShapes Go.WideShapes Go.ChangeAt Go.RowKit
set_option linter.unusedVariables false

end Go.Proofs.Ytnikliadfcgjiaa
