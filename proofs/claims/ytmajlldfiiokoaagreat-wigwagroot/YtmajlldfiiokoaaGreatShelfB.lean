
import Derived.Test.YtmajlldfiiokoaaGreatShelf
/- The same contracts. -/
namespace Go.Proofs
end Go.Proofs
