/- Nine cells of a message's box. -/
import Derived.Test.YtakfinccoffplaaDoorMsAwake
namespace Go.Proofs.YtakfinccoffplaaDoor
open Go.ChangeShapes Go.WideShapes Go.ChangeAt Go.RowKit
set_option linter.unusedVariables false
theorem cells9 {w : World} {p : Nat} {t : TypeId} {c0 c1 c2 c3 c4 c5 c6 c7 c8 : Value} (h : w.heap[p]? = some (.cells #[c0, c1, c2, c3, c4, c5, c6, c7, c8] t (0, 0))) :
    w.cell? ⟨p, 0, none⟩ = some c0 ∧ w.cell? ⟨p, 1, none⟩ = some c1 ∧ w.cell? ⟨p, 2, none⟩ = some c2 ∧ w.cell? ⟨p, 3, none⟩ = some c3 ∧ w.cell? ⟨p, 4, none⟩ = some c4 ∧ w.cell? ⟨p, 5, none⟩ = some c5 ∧ w.cell? ⟨p, 6, none⟩ = some c6 ∧ w.cell? ⟨p, 7, none⟩ = some c7 ∧ w.cell? ⟨p, 8, none⟩ = some c8 :=
  ⟨blk_cell (j := 0) h (by simp), blk_cell (j := 1) h (by simp), blk_cell (j := 2) h (by simp), blk_cell (j := 3) h (by simp), blk_cell (j := 4) h (by simp), blk_cell (j := 5) h (by simp), blk_cell (j := 6) h (by simp), blk_cell (j := 7) h (by simp), blk_cell (j := 8) h (by simp)⟩
theorem frozen9 {w : World} {p : Nat} {t : TypeId} {cs : Array Value} (h : w.heap[p]? = some (.cells cs t (0, 0))) : ∀ o, w.frozen? ⟨p, o, none⟩ = false := fun o => by simp [World.frozen?, h]
end Go.Proofs.YtakfinccoffplaaDoor
