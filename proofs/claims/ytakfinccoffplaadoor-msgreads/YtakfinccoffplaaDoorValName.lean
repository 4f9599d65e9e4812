/- value.Name, value.Str: which texts are names, which are text values. -/
import Derived.Test.YtakfinccoffplaaDoorRows
import Derived.Test.YtakfinccoffplaaDoorValMath
import Derived.WalkKit
import Derived.ProofKit
import Derived.OpenShut
import Derived.WalkLawsBesides
import Derived.OneCell
import Derived.Outline
namespace Go.Proofs.YtakfinccoffplaaDoor
open Go.ChangeShapes Go.WideShapes Go.ChangeAt Go.RowKit
set_option linter.unusedVariables false

end Go.Proofs.YtakfinccoffplaaDoor
