/- value.Schema.Match: does a filter take an event? -/
import Derived.Test.YtkkbhkpeglcodaaGreatDoorValFilter
namespace Go.Proofs.YtkkbhkpeglcodaaGreatDoor
open Go.ChangeShapes Go.WideShapes Go.ChangeAt Go.RowKit
set_option linter.unusedVariables false

end Go.Proofs.YtkkbhkpeglcodaaGreatDoor
