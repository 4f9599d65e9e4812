/- What ring.Start answers. -/
import Derived.Test.YtkmlebikcllkpaaRing
namespace Go.Proofs.Ytkmlebikcllkpaa
open Go.ChangeShapes Go.WideShapes Go.ChangeAt Go.RowKit

theorem start_any (x n : Int) (w : World) :
    Calls Try.prog 16 #[.int .u64 x, .int .i64 n] w fun e w' => e = .returned (.int .u64 (startN x n)) ∧ w' = w := by
  by_cases h0 : n < 0
  · go_enter Try.func16, Try.ntmps16
    go_wp2
    go_ret
    exact ⟨ret_i (start_out x n (Or.inl h0)).symm, rfl⟩
  · by_cases h1 : 63 < n
    · go_enter Try.func16, Try.ntmps16
      go_wp2
      go_ret
      exact ⟨ret_i (start_out x n (Or.inr h1)).symm, rfl⟩
    · go_enter Try.func16, Try.ntmps16
      go_wp2
      go_ret
      refine ⟨ret_i ?_, rfl⟩
      rw [start_in x n (by omega) (by omega)]
      exact Int.add_emod_emod _ _ _
end Go.Proofs.Ytkmlebikcllkpaa
