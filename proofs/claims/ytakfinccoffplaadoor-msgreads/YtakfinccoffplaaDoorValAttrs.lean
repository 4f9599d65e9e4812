/- wigwaglaw05.Attrs: a schema of at most six attributes, and the same as the document's. -/
import Derived.Test.YtakfinccoffplaaDoorValRows
import Derived.Deep.AppendSrc
import Derived.Deep.RegionHeld3
import Derived.Deep.RegionLaw
import Derived.Deep.AppendLies
namespace Go.Proofs.YtakfinccoffplaaDoor
open Go.ChangeShapes Go.WideShapes Go.ChangeAt Go.RowKit
set_option linter.unusedVariables false

def cutA (a : At) : At := ⟨cut a.name 20, a.kind, a.mn, a.mx⟩
theorem cutA_snoc (t : List At) (i : Nat) (hi : i < t.length) : ((t.take (i + 1)).map cutA).flatMap At.cells = ((t.take i).map cutA).flatMap At.cells ++ (cutA (t.getD i at0)).cells := by
  rw [List.take_succ_eq_append_getElem hi, List.map_append, List.flatMap_append]
  simp [hi]
theorem InRow.get {α : Type} {k : Nat} {enc : α → List Value} {ok : α → Prop} {d : α} {w : World} {a : Option Addr} {len : Nat} {xs : List α} (h : InRow k enc ok d w a len xs) (i : Nat) (hi : i < len) :
    ∃ b o, a = some ⟨b, o, none⟩ ∧ b < w.heap.size ∧ ok (xs.getD i d) ∧ ∀ j, j < k → w.cell? ⟨b, o + i * k + j, none⟩ = (enc (xs.getD i d))[j]? := by
  rcases h.2.2 with h0 | ⟨b, o, ha, hb, hc⟩
  · omega
  · exact ⟨b, o, ha, hb, (hc i hi).1, (hc i hi).2⟩

end Go.Proofs.YtakfinccoffplaaDoor
