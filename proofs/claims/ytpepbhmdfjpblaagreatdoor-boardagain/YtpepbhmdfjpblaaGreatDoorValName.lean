/- value.Name, value.Str: which texts are names, which are text values. -/
import Derived.Test.YtpepbhmdfjpblaaGreatDoorRows
import Derived.Test.YtpepbhmdfjpblaaGreatDoorValMath
import Derived.WalkKit
import Derived.ProofKit
import Derived.OpenShut
import Derived.WalkLawsBesides
import Derived.OneCell
import Derived.Outline
namespace Go.Proofs.YtpepbhmdfjpblaaGreatDoor
open Go.ChangeShapes Go.WideShapes Go.ChangeAt Go.RowKit
set_option linter.unusedVariables false

set_option maxHeartbeats 1000000 in
theorem str_any (s : ByteArray) (w : World) (hs : s.size ≤ maxLen) :
    Calls Tryz.prog 94 #[.string s] w fun e w' => Says e (StrOk s) ∧ w' = w := by
  unfold maxLen at hs
  go_enter Tryz.func94, Tryz.ntmps94
  go_wp2
  go_loop [6] (fun i => ∃ k : Nat, k ≤ s.size ∧ i = .int .i64 k ∧ Hid (∀ j (h : j < s.size), j < k → (32 : Int) ≤ (s[j].toNat : Int) ∧ (s[j].toNat : Int) ≤ 126)) (fun i => s.size - (intOf i).toNat)
  case atStart => exact ⟨0, Nat.zero_le _, rfl, (fun j _ h => absurd h (Nat.not_lt_zero _) : ∀ j (h : j < s.size), j < 0 → (32 : Int) ≤ (s[j].toNat : Int) ∧ (s[j].toNat : Int) ≤ 126)⟩
  case round =>
    obtain ⟨k, hk, rfl, I⟩ := hrel
    by_cases hlt : k < s.size
    · by_cases h1 : (s[k].toNat : Int) < 32
      · go_wp2
        go_ret
        exact ⟨Says.no fun h => by have := h.ch k hlt; omega, rfl⟩
      · by_cases h2 : (126 : Int) < (s[k].toNat : Int)
        · go_wp2
          go_ret
          exact ⟨Says.no fun h => by have := h.ch k hlt; omega, rfl⟩
        · have I2 : Hid (∀ j (h : j < s.size), j < k + 1 → (32 : Int) ≤ (s[j].toNat : Int) ∧ (s[j].toNat : Int) ≤ 126) := fun j hj hjk => by
            by_cases e : j = k
            · subst e; omega
            · exact I.out j hj (by omega)
          go_wp2
          go_round
          case rel => exact ⟨k + 1, by omega, by go_num, I2⟩
          case measure => simp [intOf]; omega
    · go_wp2
      go_ret
      exact ⟨Says.dec ⟨fun h => ⟨fun i hi => I.out i hi (by omega), by omega⟩, fun h => by have := h.le; omega⟩, rfl⟩

set_option maxHeartbeats 2000000 in
theorem name_any (s : ByteArray) (w : World) (hs : s.size ≤ maxLen) :
    Calls Tryz.prog 68 #[.string s] w fun e w' => Says e (NameOk s) ∧ w' = w := by
  unfold maxLen at hs
  by_cases g1 : s.size < 1
  · go_enter Tryz.func68, Tryz.ntmps68
    go_wp2
    go_ret
    exact ⟨Says.no fun h => by have := h.lo; omega, rfl⟩
  by_cases g2 : 12 < s.size
  · go_enter Tryz.func68, Tryz.ntmps68
    go_wp2
    go_ret
    exact ⟨Says.no fun h => by have := h.hi; omega, rfl⟩
  by_cases g3 : s.toList = [105, 110]
  · go_enter Tryz.func68, Tryz.ntmps68
    go_wp2
    go_ret
    exact ⟨Says.no fun h => h.nin g3, rfl⟩
  by_cases g4 : s.toList = [97, 110, 100]
  · go_enter Tryz.func68, Tryz.ntmps68
    go_wp2
    go_ret
    exact ⟨Says.no fun h => h.nand g4, rfl⟩
  have b3 : (s.toList == [105, 110]) = false := by simpa using g3
  have b4 : (s.toList == [97, 110, 100]) = false := by simpa using g4
  have G3 : Hid (s.toList ≠ [105, 110]) := g3
  have G4 : Hid (s.toList ≠ [97, 110, 100]) := g4
  go_enter Tryz.func68, Tryz.ntmps68
  go_wp2
  go_loop [24] (fun i => ∃ k : Nat, k ≤ s.size ∧ i = .int .i64 k ∧ Hid (∀ j (h : j < s.size), j < k → letterP s[j] ∨ (j ≠ 0 ∧ digitP s[j]))) (fun i => s.size - (intOf i).toNat)
  case atStart => exact ⟨0, Nat.zero_le _, rfl, (fun j _ h => absurd h (Nat.not_lt_zero _) : ∀ j (h : j < s.size), j < 0 → letterP s[j] ∨ (j ≠ 0 ∧ digitP s[j]))⟩
  case round =>
    obtain ⟨k, hk, rfl, I⟩ := hrel
    by_cases hlt : k < s.size
    · have I2 : letterP s[k] ∨ (k ≠ 0 ∧ digitP s[k]) → Hid (∀ j (h : j < s.size), j < k + 1 → letterP s[j] ∨ (j ≠ 0 ∧ digitP s[j])) := fun hh j hj hjk => by
        by_cases e : j = k
        · subst e; exact hh
        · exact I.out j hj (by omega)
      have HI2 : Hid _ := I2
      clear I2
      have hch : ∀ _ : NameOk s, letterP s[k] ∨ (k ≠ 0 ∧ digitP s[k]) := fun h => h.ch k hlt
      have HC : Hid _ := hch
      clear hch
      by_cases hL : (97 : Int) ≤ (s[k].toNat : Int) ∧ (s[k].toNat : Int) ≤ 122
      · obtain ⟨h1, h2⟩ := hL
        have h3 : (48 : Int) ≤ (s[k].toNat : Int) := by omega
        have h4 : ¬ (s[k].toNat : Int) ≤ 57 := by omega
        go_wp2
        go_round
        case rel => exact ⟨k + 1, by omega, by go_num, HI2.out (by unfold letterP digitP; omega)⟩
        case measure => simp [intOf]; omega
      · by_cases hD : (48 : Int) ≤ (s[k].toNat : Int) ∧ (s[k].toNat : Int) ≤ 57
        · obtain ⟨h3, h4⟩ := hD
          have h1 : ¬ (97 : Int) ≤ (s[k].toNat : Int) := by omega
          clear hL
          rcases Nat.eq_zero_or_pos k with hk0 | hk0
          · subst hk0
            have HN : Hid (¬ NameOk s) := fun h => by have := HC.out h; unfold letterP digitP at this; omega
            clear HC HI2 I
            go_wp2
            go_ret
            exact ⟨Says.no HN.out, rfl⟩
          · go_wp2
            go_round
            case rel => exact ⟨k + 1, by omega, by go_num, HI2.out (by unfold letterP digitP; omega)⟩
            case measure => simp [intOf]; omega
        · have HN : Hid (¬ NameOk s) := fun h => by have := HC.out h; unfold letterP digitP at this; omega
          clear HC HI2 I
          rcases Nat.lt_or_ge s[k].toNat 97 with h1 | h1
          · have h1' : ¬ (97 : Int) ≤ (s[k].toNat : Int) := by omega
            rcases Nat.lt_or_ge s[k].toNat 48 with h3 | h3
            · have h3' : ¬ (48 : Int) ≤ (s[k].toNat : Int) := by omega
              clear hL hD h1 h3
              go_wp2
              all_goals (go_ret; exact ⟨Says.no HN.out, rfl⟩)
            · have h3' : (48 : Int) ≤ (s[k].toNat : Int) := by omega
              have h4' : ¬ (s[k].toNat : Int) ≤ 57 := by omega
              clear hL hD h1 h3
              go_wp2
              all_goals (go_ret; exact ⟨Says.no HN.out, rfl⟩)
          · have h1' : (97 : Int) ≤ (s[k].toNat : Int) := by omega
            have h2' : ¬ (s[k].toNat : Int) ≤ 122 := by omega
            have h3' : (48 : Int) ≤ (s[k].toNat : Int) := by omega
            have h4' : ¬ (s[k].toNat : Int) ≤ 57 := by omega
            clear hL hD h1
            go_wp2
            all_goals (go_ret; exact ⟨Says.no HN.out, rfl⟩)
    · go_wp2
      go_ret
      exact ⟨Says.yes ⟨by omega, by omega, G3.out, G4.out, fun i hi => I.out i hi (by omega)⟩, rfl⟩
end Go.Proofs.YtpepbhmdfjpblaaGreatDoor
