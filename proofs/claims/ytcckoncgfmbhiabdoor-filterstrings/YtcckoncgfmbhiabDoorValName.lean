/- value.Name, value.Str: which texts are names, which are text values. -/
import Derived.Test.YtcckoncgfmbhiabDoorRows
import Derived.Test.YtcckoncgfmbhiabDoorValMath
import Derived.WalkKit
import Derived.ProofKit
import Derived.OpenShut
import Derived.WalkLawsBesides
import Derived.OneCell
import Derived.Outline
namespace Go.Proofs.YtcckoncgfmbhiabDoor
open Go.ChangeShapes Go.WideShapes Go.ChangeAt Go.RowKit
set_option linter.unusedVariables false

set_option maxHeartbeats 1000000 in
theorem str_any (s : ByteArray) (w : World) (hs : s.size ≤ maxLen) :
    Calls Tryd.prog 8 #[.string s] w fun e w' => Says e (StrOk s) ∧ w' = w := by
  unfold maxLen at hs
  go_enter Tryd.func8, Tryd.ntmps8
  go_wp2
  go_loop [6] (fun i => ∃ k : Nat, k ≤ s.size ∧ i = .int .i64 k ∧ Hid (∀ j (h : j < s.size), j < k → (32 : Int) ≤ (s[j].toNat : Int) ∧ (s[j].toNat : Int) ≤ 126)) (fun i => s.size - (intOf i).toNat)
  case atStart => exact ⟨0, Nat.zero_le _, rfl, (fun j _ h => absurd h (Nat.not_lt_zero _) : ∀ j (h : j < s.size), j < 0 → (32 : Int) ≤ (s[j].toNat : Int) ∧ (s[j].toNat : Int) ≤ 126)⟩
  case round =>
    obtain ⟨k, hk, rfl, I⟩ := hrel
    by_cases hlt : k < s.size
    · by_cases h1 : (s[k].toNat : Int) < 32
      · go_wp2
        go_ret
        exact ⟨Says.no fun h => by have := h.ch k hlt; omega, rfl⟩
      · by_cases h2 : (126 : Int) < (s[k].toNat : Int)
        · go_wp2
          go_ret
          exact ⟨Says.no fun h => by have := h.ch k hlt; omega, rfl⟩
        · have I2 : Hid (∀ j (h : j < s.size), j < k + 1 → (32 : Int) ≤ (s[j].toNat : Int) ∧ (s[j].toNat : Int) ≤ 126) := fun j hj hjk => by
            by_cases e : j = k
            · subst e; omega
            · exact I.out j hj (by omega)
          go_wp2
          go_round
          case rel => exact ⟨k + 1, by omega, by go_num, I2⟩
          case measure => simp [intOf]; omega
    · go_wp2
      go_ret
      exact ⟨Says.dec ⟨fun h => ⟨fun i hi => I.out i hi (by omega), by omega⟩, fun h => by have := h.le; omega⟩, rfl⟩

end Go.Proofs.YtcckoncgfmbhiabDoor
