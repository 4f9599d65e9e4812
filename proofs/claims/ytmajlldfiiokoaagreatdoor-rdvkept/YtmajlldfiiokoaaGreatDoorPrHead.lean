/- peer.lives, Head, Rectify, of layer 9's world. -/
import Derived.Test.YtmajlldfiiokoaaGreatDoorPrW
import Derived.Test.YtmajlldfiiokoaaGreatDoorRing
import Derived.Deep.LoopGhost
namespace Go.Proofs.YtmajlldfiiokoaaGreatDoor
open Go.ChangeShapes Go.WideShapes Go.ChangeAt Go.RowKit Go.Deep
set_option linter.unusedVariables false

end Go.Proofs.YtmajlldfiiokoaaGreatDoor
