/- The document's ring (wigwagref10) by value: four rows of 32; Live. -/
import Derived.Test.YtmajlldfiiokoaaGreatDoorJoinRfW
import Derived.Test.YtmajlldfiiokoaaGreatDoorChInv
namespace Go.Proofs.YtmajlldfiiokoaaGreatDoor
open Go.ChangeShapes Go.WideShapes Go.ChangeAt Go.RowKit Go.Deep
set_option linter.unusedVariables false

/-- A member's three cells. -/
structure Pr3 where
  id : Int
  pred : Int
  a : Option Addr
  len : Nat
  cap : Nat
def pr30 : Pr3 := ⟨0, 0, none, 0, 0⟩
def Pr3.cells (p : Pr3) : List Value := [.int .u64 p.id, .int .i64 p.pred, .slice p.a p.len p.cap]
def Pr3.ok (p : Pr3) : Prop := u64 p.id ∧ i64 p.pred
def lvL (R : Rg) : List Bool := (List.range 32).map fun (k : Nat) => R.lives (k : Int)
def usL (R : Rg) : List Bool := (List.range 32).map fun (k : Nat) => (R.pl (k : Int)).isSome
def idL (R : Rg) : List Int := (List.range 32).map fun (k : Nat) => R.idOf (k : Int)
/-- What a member knows lies in its cells. -/
def PrOk (w : World) (p : Option Pe) (q : Pr3) : Prop := ∀ x, p = some x → q.id = x.id ∧ q.pred = x.pred ∧ PeIn w x.id x.pred q.a q.len q.cap x.succ
structure RfV (w : World) (R : Rg) (v : Value) : Prop where
  ex : ∃ ua uc la lc ia ic pa pc P, v = .agg #[.slice ua 32 uc, .slice la 32 lc, .slice ia 32 ic, .slice pa 32 pc] ∧ LvIn w ua 32 (usL R) ∧ LvIn w la 32 (lvL R) ∧ IdIn w ia 32 (idL R) ∧ InRow 3 Pr3.cells Pr3.ok pr30 w pa 32 P ∧ ∀ k : Nat, k < 32 → PrOk w (R.kn k) (P.getD k pr30)
theorem RfV.below {w w' : World} {R : Rg} {v : Value} (h : RfV w R v) (hb : Below w.heap.size w w') : RfV w' R v := by
  obtain ⟨ua, uc, la, lc, ia, ic, pa, pc, P, e, h1, h2, h3, h4, h5⟩ := h.ex
  exact ⟨ua, uc, la, lc, ia, ic, pa, pc, P, e, h1.below (Nat.le_refl _) hb, h2.below (Nat.le_refl _) hb, h3.below (Nat.le_refl _) hb, h4.below (Nat.le_refl _) hb, fun k hk x hx => ⟨(h5 k hk x hx).1, (h5 k hk x hx).2.1, (h5 k hk x hx).2.2.below (Nat.le_refl _) hb⟩⟩
end Go.Proofs.YtmajlldfiiokoaaGreatDoor
