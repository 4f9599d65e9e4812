/- What ring.Dist, ring.In, ring.Within, ring.Start and ring.Owner answer, as plain functions on the integers; and that the answers which the document fixes are so (awake). -/
import Derived.Test.YtmajlldfiiokoaaGreatDoorRows
import Derived.Test.YtmajlldfiiokoaaGreatDoorRingMath
import Derived.Test.YtmajlldfiiokoaaGreatDoorAid
import Derived.WalkKit
import Derived.ProofKit
import Derived.OpenShut
import Derived.WalkLawsBesides
import Derived.Outline
namespace Go.Proofs.YtmajlldfiiokoaaGreatDoor
open Go.ChangeShapes Go.WideShapes Go.ChangeAt Go.RowKit

theorem dist_any (a b : Int) (w : World) :
    Calls Tryz.prog 163 #[.int .u64 a, .int .u64 b] w fun e w' => e = .returned (.int .u64 (dist a b)) ∧ w' = w := by
  go_enter Tryz.func163, Tryz.ntmps163
  go_wp2
  go_ret
  exact ⟨rfl, rfl⟩

theorem within_any (x a b : Int) (w : World) :
    Calls Tryz.prog 125 #[.int .u64 x, .int .u64 a, .int .u64 b] w fun e w' => e = .returned (.bool (withinB x a b)) ∧ w' = w := by
  by_cases h2 : (x != a) = false
  · go_enter Tryz.func125, Tryz.ntmps125
    go_wp2
    go_ret
    exact ⟨by simp [withinB, h2], rfl⟩
  · have h2 : (x != a) = true := by simpa using h2
    by_cases h1 : (a == b) = true
    · go_enter Tryz.func125, Tryz.ntmps125
      go_wp2
      go_ret
      exact ⟨by simp [withinB, h1, h2], rfl⟩
    · have h1 : (a == b) = false := by simpa using h1
      go_enter Tryz.func125, Tryz.ntmps125
      go_wp2_with (go_at_call 163; refine (dist_any _ _ _).mono ?_; rintro e w' ⟨rfl, rfl⟩)
      go_ret
      exact ⟨by simp [withinB, h1, h2], rfl⟩

theorem owner_some (b off len cap : Nat) (zs : List Int) (x : Int) (w : World) (hz : zs.length = len) (hp : 0 < len) (hm : len ≤ 9223372036854775807)
    (hc : ∀ j, j < len → w.cell? ⟨b, off + j, none⟩ = some (.int .u64 (zs.getD j 0))) :
    Calls Tryz.prog 77 #[.slice (some ⟨b, off, none⟩) len cap, .int .u64 x] w fun e w' => e = .returned (.int .i64 (ownerN zs x)) ∧ w' = w := by
  have hne : ((len : Int) == 0) = false := by simp; omega
  have hz' : Hid (zs.length = len) := hz
  clear hz
  go_enter Tryz.func77, Tryz.ntmps77
  go_wp2
  go_loop [12] (fun i => ∃ k : Nat, k ≤ len ∧ i = .int .i64 k ∧ ∀ j, j < k → zs.getD j 0 < x) (fun i => len - (intOf i).toNat)
  case atStart => exact ⟨0, Nat.zero_le _, rfl, fun j hj => by omega⟩
  case round =>
    obtain ⟨k, hk, rfl, hlo⟩ := hrel
    have hlo' : Hid (∀ j, j < k → zs.getD j 0 < x) := hlo
    clear hlo
    have hcell : k < len → w.cell? ⟨b, off + k, none⟩ = some (.int .u64 (zs.getD k 0)) := fun h => hc k h
    clear hc
    by_cases hlt : k < len
    · by_cases hx : x ≤ zs[k]?.getD 0
      · go_wp2
        go_ret
        exact ⟨ret_i (owner_hit zs x k (by have := hz'.out; omega) hlo'.out hx).symm, rfl⟩
      · go_wp2
        go_round
        case rel => exact ⟨k + 1, by omega, by go_num, fun j hj => by
          by_cases e : j = k
          · subst e; show zs[j]?.getD 0 < x; omega
          · exact hlo'.out j (by omega)⟩
        case measure => simp [intOf]; omega
    · go_wp2
      go_ret
      exact ⟨ret_i (owner_miss zs x (by have := hz'.out; omega) (fun j hj => hlo'.out j (by have := hz'.out; omega))).symm, rfl⟩

end Go.Proofs.YtmajlldfiiokoaaGreatDoor
