/- wigwagref09.Ints: are two lists the same? -/
import Derived.Test.YtkeeolnpbjoigaaPrList
import Derived.Deep.QuietTactic
namespace Go.Proofs.Ytkeeolnpbjoigaa
open Go.ChangeShapes Go.WideShapes Go.ChangeAt Go.RowKit Go.Deep
set_option linter.unusedVariables false

theorem below_drew {B : Nat} {w w' : World} (h : Below B w w') (n : Nat) : Below B w (w'.drewN n) := ⟨h.os, h.tape, h.output, h.size, h.block⟩

def intsB (l k : List Int) : Bool := decide (l = k)
theorem ints_no {l k : List Int} (h : l.length ≠ k.length) : intsB l k = false := by
  unfold intsB; exact decide_eq_false fun e => h (by rw [e])
theorem ints_at {l k : List Int} (j : Nat) (h : l.getD j 0 ≠ k.getD j 0) : intsB l k = false := by
  unfold intsB; exact decide_eq_false fun e => h (by rw [e])
theorem ints_all {l k : List Int} (h0 : l.length = k.length) (h : ∀ j, j < l.length → l.getD j 0 = k.getD j 0) : intsB l k = true := by
  unfold intsB
  refine decide_eq_true (List.ext_getElem h0 fun i h1 h2 => ?_)
  have := h i h1
  simpa [List.getD, h1, h2] using this

end Go.Proofs.Ytkeeolnpbjoigaa
