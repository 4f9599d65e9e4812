/- New, of any places: a ring with what holds always, or none; what a Join gives. -/
import Derived.Test.YtmajlldfiiokoaaGreatDoorChHop
namespace Go.Proofs.YtmajlldfiiokoaaGreatDoor
open Go.ChangeShapes Go.WideShapes Go.ChangeAt Go.RowKit Go.Deep
set_option linter.unusedVariables false

/-- A ring that is ours: none of its parts lies in what came in. -/
structure Rn (w wr : World) (r gp gk : Nat) (R : Rg) : Prop where
  ring : RingAt wr r gp gk R
  inv : Inv R
  bel : Below w.heap.size w wr
  gp : w.heap.size ≤ gp
  gk : w.heap.size ≤ gk
theorem Rn.below {w wr w' : World} {r gp gk : Nat} {R : Rg} (h : Rn w wr r gp gk R) (hb : Below wr.heap.size wr w') : Rn w w' r gp gk R :=
  ⟨h.ring.below hb, h.inv, h.bel.trans (hb.mono h.bel.size), h.gp, h.gk⟩
theorem Rn.step {w wr w' : World} {r gp gk : Nat} {R R' : Rg} (h : Rn w wr r gp gk R) (hr : RingAt w' r gp gk R') (hi : Inv R') (k : Kp wr w' gp gk) : Rn w w' r gp gk R' :=
  ⟨hr, hi, h.bel.trans (k.below h.gp h.gk h.bel.size), h.gp, h.gk⟩
theorem errV_nil {c : Int} (h : c = 0) : errV c = .nilIface := if_pos h
theorem errV_code {c : Int} (h : c ≠ 0) : errV c = .iface 116 (.int .i64 c) := if_neg h
end Go.Proofs.YtmajlldfiiokoaaGreatDoor
