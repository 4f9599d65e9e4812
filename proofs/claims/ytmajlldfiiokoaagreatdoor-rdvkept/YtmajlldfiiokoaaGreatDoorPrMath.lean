/- What members know: who lives, where they lie, heads, who is ahead. No program in sight. -/
import Derived.Test.YtmajlldfiiokoaaGreatDoorRingMath
namespace Go.Proofs.YtmajlldfiiokoaaGreatDoor
set_option linter.unusedVariables false

/-- The place of an address; 0, if it has none. -/
def idI (ids : List Int) (n : Int) : Int := if 0 ≤ n then ids.getD n.toNat 0 else 0
theorem id_neg {ids : List Int} {n : Int} (h : n < 0) : idI ids n = 0 := if_neg (by omega)
theorem id_out {ids : List Int} {n : Int} (h : (ids.length : Int) ≤ n) : idI ids n = 0 := by
  have q : ids.length ≤ n.toNat := by omega
  simp [idI, List.getD, List.getElem?_eq_none q]
theorem id_at {ids : List Int} {n : Int} (h : 0 ≤ n) : idI ids n = ids.getD n.toNat 0 := if_pos h

end Go.Proofs.YtmajlldfiiokoaaGreatDoor
