/- peer.lives, Head, Nearer, Rectify, of a chord ring. -/
import Derived.Test.YtkkkldglceiiiaaGreatChRing
import Derived.Test.YtkkkldglceiiiaaGreatRing
import Derived.Deep.LoopGhost
namespace Go.Proofs.YtkkkldglceiiiaaGreat
open Go.ChangeShapes Go.WideShapes Go.ChangeAt Go.RowKit Go.Deep
set_option linter.unusedVariables false

/-- The first one that lives; -1: none. -/
def headF (L : Int → Bool) : List Int → Int
  | [] => -1
  | n :: l => if L n then n else headF L l
/-- Who lives, as layer 9 asks it. -/
def Rg.lv (R : Rg) (n : Int) : Bool := n != -1 && R.lives n
def Rg.near (R : Rg) (q frm to : Int) : Bool := R.lv q && (to != -1 && withinB (R.idOf q) frm (R.idOf to))
def Rg.rect (R : Rg) (id pred n : Int) : Int := if !R.lv pred || (n != -1 && withinB (R.idOf n) (R.idOf pred) id) then n else pred

theorem headF_drop (L : Int → Bool) (l : List Int) (k : Nat) (hk : k < l.length) : headF L (l.drop k) = if L (l.getD k 0) then l.getD k 0 else headF L (l.drop (k + 1)) := by
  rw [List.drop_eq_getElem_cons hk]
  have e : l.getD k 0 = l[k] := by simp [List.getD, hk]
  rw [e]; rfl

theorem mr_lives (a : Addr) (w : World) : (method 274 22 (.pointer (some a)) "Lives").run Tryz.prog w = .ok (39, .pointer (some a)) w := by kernel_rfl
theorem mr_id (a : Addr) (w : World) : (method 274 22 (.pointer (some a)) "Id").run Tryz.prog w = .ok (25, .pointer (some a)) w := by kernel_rfl
/-- The ring as one that is asked. -/
def kvR (r : Nat) : Value := .iface 22 (.pointer (some ⟨r, 0, none⟩))

theorem rectF_no {R : Rg} {id pred n : Int} (h : R.lv pred = true) (h2 : (n != -1 && withinB (R.idOf n) (R.idOf pred) id) = false) : R.rect id pred n = pred := by
  unfold Rg.rect; rw [h, h2]; rfl
theorem rectF_dead {R : Rg} {id pred n : Int} (h : R.lv pred = false) : R.rect id pred n = n := by
  unfold Rg.rect; rw [h]; rfl
theorem rectF_in {R : Rg} {id pred n : Int} (h : (n != -1 && withinB (R.idOf n) (R.idOf pred) id) = true) : R.rect id pred n = n := by
  unfold Rg.rect; rw [h]; simp

end Go.Proofs.YtkkkldglceiiiaaGreat
