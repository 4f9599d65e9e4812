
import Derived.Test.YtmajlldfiiokoaaGreatDoorShelf
/- The same contracts. -/
namespace Go.Proofs
end Go.Proofs
