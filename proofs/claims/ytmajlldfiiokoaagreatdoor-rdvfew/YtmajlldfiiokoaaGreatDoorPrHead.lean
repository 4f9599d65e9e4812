/- peer.lives, Head, Rectify, of layer 9's world. -/
import Derived.Test.YtmajlldfiiokoaaGreatDoorPrW
import Derived.Test.YtmajlldfiiokoaaGreatDoorRing
import Derived.Deep.LoopGhost
namespace Go.Proofs.YtmajlldfiiokoaaGreatDoor
open Go.ChangeShapes Go.WideShapes Go.ChangeAt Go.RowKit Go.Deep
set_option linter.unusedVariables false

theorem rect_no {lv : List Bool} {ids : List Int} {id pred n : Int} (h : livesB lv pred = true) (h2 : (n != -1 && withinB (idI ids n) (idI ids pred) id) = false) : rectI lv ids id pred n = pred := by
  unfold rectI; rw [h, h2]; rfl
theorem rect_dead {lv : List Bool} {ids : List Int} {id pred n : Int} (h : livesB lv pred = false) : rectI lv ids id pred n = n := by
  unfold rectI; rw [h]; rfl
theorem rect_in {lv : List Bool} {ids : List Int} {id pred n : Int} (h : (n != -1 && withinB (idI ids n) (idI ids pred) id) = true) : rectI lv ids id pred n = n := by
  unfold rectI; rw [h]; simp

end Go.Proofs.YtmajlldfiiokoaaGreatDoor
