/- What ring.Dist, ring.In, ring.Within, ring.Start and ring.Owner answer, as plain functions on the integers; and that the answers which the document fixes are so (awake). -/
import Derived.Test.YtkkkldglceiiiaaGreatRows
import Derived.Test.YtkkkldglceiiiaaGreatRingMath
import Derived.Test.YtkkkldglceiiiaaGreatAid
import Derived.WalkKit
import Derived.ProofKit
import Derived.OpenShut
import Derived.WalkLawsBesides
import Derived.Outline
namespace Go.Proofs.YtkkkldglceiiiaaGreat
open Go.ChangeShapes Go.WideShapes Go.ChangeAt Go.RowKit

theorem owner_none (a : Option Addr) (cap : Nat) (x : Int) (w : World) :
    Calls Tryz.prog 26 #[.slice a 0 cap, .int .u64 x] w fun e w' => e = .returned (.int .i64 (-1)) ∧ w' = w := by
  go_enter Tryz.func26, Tryz.ntmps26
  go_wp2
  go_ret
  exact ⟨rfl, rfl⟩

theorem owner_some (b off len cap : Nat) (zs : List Int) (x : Int) (w : World) (hz : zs.length = len) (hp : 0 < len) (hm : len ≤ 9223372036854775807)
    (hc : ∀ j, j < len → w.cell? ⟨b, off + j, none⟩ = some (.int .u64 (zs.getD j 0))) :
    Calls Tryz.prog 26 #[.slice (some ⟨b, off, none⟩) len cap, .int .u64 x] w fun e w' => e = .returned (.int .i64 (ownerN zs x)) ∧ w' = w := by
  have hne : ((len : Int) == 0) = false := by simp; omega
  have hz' : Hid (zs.length = len) := hz
  clear hz
  go_enter Tryz.func26, Tryz.ntmps26
  go_wp2
  go_loop [12] (fun i => ∃ k : Nat, k ≤ len ∧ i = .int .i64 k ∧ ∀ j, j < k → zs.getD j 0 < x) (fun i => len - (intOf i).toNat)
  case atStart => exact ⟨0, Nat.zero_le _, rfl, fun j hj => by omega⟩
  case round =>
    obtain ⟨k, hk, rfl, hlo⟩ := hrel
    have hlo' : Hid (∀ j, j < k → zs.getD j 0 < x) := hlo
    clear hlo
    have hcell : k < len → w.cell? ⟨b, off + k, none⟩ = some (.int .u64 (zs.getD k 0)) := fun h => hc k h
    clear hc
    by_cases hlt : k < len
    · by_cases hx : x ≤ zs[k]?.getD 0
      · go_wp2
        go_ret
        exact ⟨ret_i (owner_hit zs x k (by have := hz'.out; omega) hlo'.out hx).symm, rfl⟩
      · go_wp2
        go_round
        case rel => exact ⟨k + 1, by omega, by go_num, fun j hj => by
          by_cases e : j = k
          · subst e; show zs[j]?.getD 0 < x; omega
          · exact hlo'.out j (by omega)⟩
        case measure => simp [intOf]; omega
    · go_wp2
      go_ret
      exact ⟨ret_i (owner_miss zs x (by have := hz'.out; omega) (fun j hj => hlo'.out j (by have := hz'.out; omega))).symm, rfl⟩

end Go.Proofs.YtkkkldglceiiiaaGreat
