/- A region that draws its order, whose operations read and whose callees may lay new memory: one walk, in every world that has grown out of the one ahead of it. No program in sight. -/
import Derived.WalkKit
import Derived.BigQuiet
import Derived.Deep.QuietTactic
namespace Go.Proofs.YtmajlldfiiokoaaGreatDoor
open Go.RowKit
set_option linter.unusedVariables false

/-- The worlds that have grown out of w, as a family. -/
theorem grown_fam (w : World) : ∃ (ι : Type) (F : ι → World), Nonempty ι ∧ (∃ i, { w with drawn := w.drawn + 1 } = F i) ∧ (∀ i, Below w.heap.size w (F i)) ∧ (∀ i W, Below w.heap.size (F i) W → ∃ j, W = F j) := by
  have b0 : Below w.heap.size w { w with drawn := w.drawn + 1 } := ⟨rfl, rfl, rfl, Nat.le_refl _, fun _ _ => rfl⟩
  exact ⟨{ W : World // Below w.heap.size w W }, Subtype.val, ⟨⟨_, b0⟩⟩, ⟨⟨_, b0⟩, rfl⟩, fun i => i.2, fun i W h => ⟨⟨W, i.2.trans h⟩, rfl⟩⟩

theorem wp_region_fam {P : Program} {id : Nat} {Q : Exit → Act → World → Prop} {a : Act} {w : World} {l : List Oper} {ι : Type} (F : ι → World) (hF : ∃ i, { w with drawn := w.drawn + 1 } = F i)
    (hm : P.follows .mixedOrders = true) (hB : Region.lexB .any l.toArray = true)
    (h : wpQuiet P l.toArray (fun w' => ∃ n, w' = F n) (fun a' => ∀ w', (∃ n, w' = F n) → Q .normal a' w') l a) : (Code.region id l.toArray true).wp P Q a w :=
  wp_region_quiet (C := fun w' => ∃ n, w' = F n) hm hB hF (by simpa using h)

theorem cell_block {w : World} {a : Addr} {v : Value} (h : w.cell? a = some v) : a.block < w.heap.size := by
  rcases Nat.lt_or_ge a.block w.heap.size with q | q
  · exact q
  · simp [World.cell?, Array.getElem?_eq_none q] at h

theorem cell_grown {w w' : World} {a : Addr} {v : Value} (h : w.cell? a = some v) (hb : Below w.heap.size w w') : w'.cell? a = some v := by
  rw [← h]
  exact World.cell?_of_block (hb.block a.block (cell_block h))
end Go.Proofs.YtmajlldfiiokoaaGreatDoor
