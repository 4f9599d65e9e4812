/- The document's answer for layer 9: who lives, whose place, heads; a world by value. -/
import Derived.Test.YtmajlldfiiokoaaGreatDoorPrHead
import Derived.Deep.CutBlock
import Derived.Deep.DeepCutAuto
import Derived.Test.YtmajlldfiiokoaaGreatDoorRing
import Derived.Test.YtmajlldfiiokoaaGreatDoorFam
import Derived.Test.YtmajlldfiiokoaaGreatDoorOwnSrc
import Derived.Test.YtmajlldfiiokoaaGreatDoorPrList
import Derived.Deep.QuietTactic
import Derived.BigQuiet
import Derived.Deep.LoopGhost
import Derived.Deep.AppendLies
set_option linter.unnecessarySimpa false
namespace Go.Proofs.YtmajlldfiiokoaaGreatDoor
open Go.ChangeShapes Go.WideShapes Go.ChangeAt Go.RowKit Go.Deep
set_option linter.unusedVariables false

/-- A world of the document's, as a value. -/
structure RfW (w : World) (lv : List Bool) (ids : List Int) (v : Value) : Prop where
  ex : ∃ a n c b m d, v = .agg #[.slice a n c, .slice b m d] ∧ LvIn w a n lv ∧ IdIn w b m ids
theorem RfW.below {w w' : World} {lv : List Bool} {ids : List Int} {v : Value} (h : RfW w lv ids v) (hb : Below w.heap.size w w') : RfW w' lv ids v := by
  obtain ⟨a, n, c, b, m, d, e, h1, h2⟩ := h.ex
  exact ⟨a, n, c, b, m, d, e, h1.below (Nat.le_refl _) hb, h2.below (Nat.le_refl _) hb⟩
end Go.Proofs.YtmajlldfiiokoaaGreatDoor

/- The document's answers of layer 1 (wigwagref01) are the same plain functions. -/
namespace Go.Proofs.YtmajlldfiiokoaaGreatDoor
open Go.ChangeShapes Go.WideShapes Go.ChangeAt Go.RowKit

theorem refdist_any (a b : Int) (w : World) (ha : 0 ≤ a ∧ a ≤ 18446744073709551615) (hb : 0 ≤ b ∧ b ≤ 18446744073709551615) :
    Calls Tryz.prog 121 #[.int .u64 a, .int .u64 b] w fun e w' => e = .returned (.int .u64 (dist a b)) ∧ w' = w := by
  obtain ⟨ha0, ha1⟩ := ha
  obtain ⟨hb0, hb1⟩ := hb
  by_cases h : a ≤ b
  · go_enter Tryz.func121, Tryz.ntmps121
    go_wp2
    go_ret
    refine ⟨ret_i ?_, rfl⟩
    unfold dist
    first | omega | (show (b - a) % 18446744073709551616 = _; omega)
  · go_enter Tryz.func121, Tryz.ntmps121
    go_wp2
    go_ret
    refine ⟨ret_i ?_, rfl⟩
    unfold dist
    omega

end Go.Proofs.YtmajlldfiiokoaaGreatDoor

/- The document's answer for layer 9: Nearer, Follow. -/
namespace Go.Proofs.YtmajlldfiiokoaaGreatDoor
open Go.ChangeShapes Go.WideShapes Go.ChangeAt Go.RowKit Go.Deep
set_option linter.unusedVariables false

theorem RfW.u {w : World} {lv : List Bool} {ids : List Int} {v : Value} (h : RfW w lv ids v) (n : Int) : 0 ≤ idI ids n ∧ idI ids n ≤ 18446744073709551615 := by
  obtain ⟨a, k, c, b, m, d, _, _, h2⟩ := h.ex
  by_cases n0 : n < 0
  · rw [id_neg n0]; omega
  · by_cases nk : n < ids.length
    · rw [id_at (by omega)]
      obtain ⟨_, _, _, _, hu, _⟩ := h2.one (v := Value.int .u64) (fun _ => rfl) (i := n.toNat) (by rw [← h2.1]; omega)
      exact hu
    · rw [id_out (by omega)]; omega
end Go.Proofs.YtmajlldfiiokoaaGreatDoor

/- The document's answer for layer 9: Follow, Rectify. -/
namespace Go.Proofs.YtmajlldfiiokoaaGreatDoor
open Go.ChangeShapes Go.WideShapes Go.ChangeAt Go.RowKit Go.Deep
set_option linter.unusedVariables false

end Go.Proofs.YtmajlldfiiokoaaGreatDoor

/- The document's answer for layer 9: Rectify. -/
namespace Go.Proofs.YtmajlldfiiokoaaGreatDoor
open Go.ChangeShapes Go.WideShapes Go.ChangeAt Go.RowKit Go.Deep
set_option linter.unusedVariables false

end Go.Proofs.YtmajlldfiiokoaaGreatDoor
