/- What code.Reader's refuse does. -/
import Derived.Test.YtakfinccoffplaaDoorCodeKeep
namespace Go.Proofs.YtakfinccoffplaaDoor
open Go.ChangeShapes Go.WideShapes Go.ChangeAt Go.RowKit
set_option linter.unusedVariables false

theorem refuse_any (q : Nat) (s : ByteArray) (at' c b : Nat) (w : World) (h : Rd w q s at' c) :
    Calls Tryd.prog 48 #[.pointer (some ⟨q, 0, none⟩), .int .i64 (b : Int)] w
      fun e w' => e = .returned (.tuple #[]) ∧ Rd w' q s b 1 ∧ Same w w' q := by
  have h1 := h.at
  have h2 := h.code
  have hf := h.free
  have hl := h.lt
  go_enter Tryd.func48, Tryd.ntmps48
  go_wp2
  go_end0
  exact ⟨rfl, (h.setAt b).setCode 1, (Same.setCell _ _ _ _).trans (Same.setCell _ _ _ _)⟩
end Go.Proofs.YtakfinccoffplaaDoor
