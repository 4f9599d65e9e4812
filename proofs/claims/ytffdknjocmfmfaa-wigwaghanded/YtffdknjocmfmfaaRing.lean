/- What ring.Dist, ring.In, ring.Within, ring.Start and ring.Owner answer, as plain functions on the integers; and that the answers which the document fixes are so (awake). -/
import Derived.Test.YtffdknjocmfmfaaRows
import Derived.Test.YtffdknjocmfmfaaRingMath
import Derived.Test.YtffdknjocmfmfaaAid
import Derived.WalkKit
import Derived.ProofKit
import Derived.OpenShut
import Derived.WalkLawsBesides
import Derived.Outline
namespace Go.Proofs.Ytffdknjocmfmfaa
open Go.ChangeShapes Go.WideShapes Go.ChangeAt Go.RowKit

theorem dist_any (a b : Int) (w : World) :
    Calls Try.prog 33 #[.int .u64 a, .int .u64 b] w fun e w' => e = .returned (.int .u64 (dist a b)) ∧ w' = w := by
  go_enter Try.func33, Try.ntmps33
  go_wp2
  go_ret
  exact ⟨rfl, rfl⟩

theorem in_any (x a b : Int) (w : World) :
    Calls Try.prog 21 #[.int .u64 x, .int .u64 a, .int .u64 b] w fun e w' => e = .returned (.bool (inB x a b)) ∧ w' = w := by
  by_cases h1 : (a == b) = true
  · go_enter Try.func21, Try.ntmps21
    go_wp2
    go_ret
    exact ⟨by simp [inB, h1], rfl⟩
  · have h1 : (a == b) = false := by simpa using h1
    by_cases h2 : (x != a) = false
    · go_enter Try.func21, Try.ntmps21
      go_wp2
      go_ret
      exact ⟨by simp [inB, h1, h2], rfl⟩
    · have h2 : (x != a) = true := by simpa using h2
      go_enter Try.func21, Try.ntmps21
      go_wp2_with (go_at_call 33; refine (dist_any _ _ _).mono ?_; rintro e w' ⟨rfl, rfl⟩)
      go_ret
      exact ⟨by simp [inB, h1, h2], rfl⟩

end Go.Proofs.Ytffdknjocmfmfaa
