/- value.Name, value.Str: which texts are names, which are text values. -/
import Derived.Test.YtnikliadfcgjiaaDoorRows
import Derived.Test.YtnikliadfcgjiaaDoorValMath
import Derived.WalkKit
import Derived.ProofKit
import Derived.OpenShut
import Derived.WalkLawsBesides
import Derived.OneCell
import Derived.Outline
namespace Go.Proofs.YtnikliadfcgjiaaDoor
open Go.ChangeShapes Go.WideShapes Go.ChangeAt Go.RowKit
set_option linter.unusedVariables false

end Go.Proofs.YtnikliadfcgjiaaDoor
