/- wigwaglaw09.Cut: a peer that knows at most eight behind it. -/
import Derived.Test.YtefaigdanoninaaDoorPrInts
namespace Go.Proofs.YtefaigdanoninaaDoor
open Go.ChangeShapes Go.WideShapes Go.ChangeAt Go.RowKit Go.Deep
set_option linter.unusedVariables false

end Go.Proofs.YtefaigdanoninaaDoor
