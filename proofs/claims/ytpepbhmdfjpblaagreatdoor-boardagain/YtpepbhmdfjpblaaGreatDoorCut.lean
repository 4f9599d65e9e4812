/- What wigwaglaw01.Cut answers: at most n bytes. -/
import Derived.Test.YtpepbhmdfjpblaaGreatDoorRows
import Derived.Test.YtpepbhmdfjpblaaGreatDoorAid
import Derived.WalkKit
import Derived.ProofKit
import Derived.OpenShut
import Derived.WalkLawsBesides
namespace Go.Proofs.YtpepbhmdfjpblaaGreatDoor
open Go.ChangeShapes Go.WideShapes Go.ChangeAt Go.RowKit
set_option linter.unusedVariables false

theorem cut_any (s : ByteArray) (n : Nat) (w : World) (hs : s.size ≤ maxLen) :
    Calls Tryz.prog 19 #[.string s, .int .i64 n] w fun e w' => e = .returned (.string (cut s n)) ∧ w' = w := by
  unfold maxLen at hs
  by_cases h : n < s.size
  · have H : Hid (cut s n = s.extract 0 n) := (if_pos h : cut s n = s.extract 0 n)
    go_enter Tryz.func19, Tryz.ntmps19
    go_wp2
    go_ret
    exact ⟨by rw [H.out]; rfl, rfl⟩
  · have H : Hid (cut s n = s) := (if_neg h : cut s n = s)
    go_enter Tryz.func19, Tryz.ntmps19
    go_wp2
    go_ret
    exact ⟨by rw [H.out]; rfl, rfl⟩
end Go.Proofs.YtpepbhmdfjpblaaGreatDoor
