/- What code.Reader's refuse does. -/
import Derived.Test.YtgbdnclolgdojaaCodeKeep
namespace Go.Proofs.Ytgbdnclolgdojaa
open Go.ChangeShapes Go.WideShapes Go.ChangeAt Go.RowKit
set_option linter.unusedVariables false

theorem refuse_any (q : Nat) (s : ByteArray) (at' c b : Nat) (w : World) (h : Rd w q s at' c) :
    Calls Try.prog 38 #[.pointer (some ⟨q, 0, none⟩), .int .i64 (b : Int)] w
      fun e w' => e = .returned (.tuple #[]) ∧ Rd w' q s b 1 ∧ Same w w' q := by
  have h1 := h.at
  have h2 := h.code
  have hf := h.free
  have hl := h.lt
  go_enter Try.func38, Try.ntmps38
  go_wp2
  go_end0
  exact ⟨rfl, (h.setAt b).setCode 1, (Same.setCell _ _ _ _).trans (Same.setCell _ _ _ _)⟩
end Go.Proofs.Ytgbdnclolgdojaa
