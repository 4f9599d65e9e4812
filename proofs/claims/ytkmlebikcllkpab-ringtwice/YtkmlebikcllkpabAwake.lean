/- The answers that the document fixes for layer 1 (awake) are so. -/
import Derived.Test.YtkmlebikcllkpabRing
namespace Go.Proofs.Ytkmlebikcllkpab
open Go.ChangeShapes Go.WideShapes Go.ChangeAt Go.RowKit

theorem d53 : (dist 5 3 == 18446744073709551614) = true := by decide
theorem i353 : inB 3 5 3 = true := by decide
theorem w353 : withinB 3 5 3 = false := by decide
theorem i453 : inB 4 5 3 = false := by decide
theorem own39 : ownerN [3, 9] 10 = 0 := by decide

theorem awake_any (w : World) :
    Calls Try.prog 6 #[] w fun e w' => e = .returned (.bool true) ∧ w' = w.alloc (.cells #[.int .u64 3, .int .u64 9] 23) := by
  have h1 := d53
  have h2 := i353
  have h3 := w353
  have h4 := i453
  have h5 := own39
  go_enter Try.func6, Try.ntmps6
  go_wp2_with (first | (go_at_call 7; refine (dist_any _ _ _).mono ?_; rintro e w' ⟨rfl, rfl⟩) | (go_at_call 8; refine (in_any _ _ _ _).mono ?_; rintro e w' ⟨rfl, rfl⟩) | (go_at_call 9; refine (within_any _ _ _ _).mono ?_; rintro e w' ⟨rfl, rfl⟩))
  refine (owner_some _ 0 2 2 [3, 9] 10 _ rfl (by omega) (by omega) ?_).mono ?_
  · intro j hj
    match j, hj with
    | 0, _ => simp [World.cell?_alloc_new]
    | 1, _ => simp [World.cell?_alloc_new]
  rintro e w2 ⟨rfl, rfl⟩
  go_wp2
  go_ret
  exact ⟨rfl, rfl⟩

end Go.Proofs.Ytkmlebikcllkpab
