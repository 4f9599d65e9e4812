/- value.Schema.Match: does a filter take an event? -/
import Derived.Test.YtcckoncgfmbhiaaGreatDoorValFilter
namespace Go.Proofs.YtcckoncgfmbhiaaGreatDoor
open Go.ChangeShapes Go.WideShapes Go.ChangeAt Go.RowKit
set_option linter.unusedVariables false

end Go.Proofs.YtcckoncgfmbhiaaGreatDoor
