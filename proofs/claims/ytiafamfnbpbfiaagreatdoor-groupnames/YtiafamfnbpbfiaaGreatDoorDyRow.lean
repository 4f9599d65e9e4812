/- An interval that came in. -/
import Derived.Test.YtiafamfnbpbfiaaGreatDoorInRow
import Derived.Test.YtiafamfnbpbfiaaGreatDoorDyMath
namespace Go.Proofs.YtiafamfnbpbfiaaGreatDoor
open Go.ChangeShapes Go.WideShapes Go.ChangeAt Go.RowKit Go.Deep
set_option linter.unusedVariables false

def Iv.ok (t : Iv) : Prop := i64 t.lev ∧ i64 t.idx
theorem cellsIv : Tryz.prog.cellsOf 23 = 2 := by kernel_rfl
section
variable {H : Type} {enc' : TypeId × Value → H} {W : World}
set_option maxRecDepth 100000 in
theorem iv_of (n : Nat) (cs : List Value) (x : DataW H × List MemPlace) (h : DataW.trod enc' Tryz.prog W 0 (fun _ => true) true n 23 cs = some x) : ∃ t : Iv, cs = t.cells ∧ t.ok := by
  obtain ⟨xs, m, _, _, hl, hlen, hf⟩ := DataW.trod_struct Tryz.underlying23 h
  rw [cellsIv] at hl
  match cs, hl with
  | [c0, c1], _ =>
    match xs, hlen with
    | [y0, y1], _ =>
      have f0 := hf 0 _ rfl
      have f1 := hf 1 _ rfl
      simp [cellsI1] at f0 f1
      obtain ⟨k, e0, _, wk⟩ := DataW.trod_int Tryz.underlying3 f0
      obtain ⟨s, e1, _, ws⟩ := DataW.trod_int Tryz.underlying3 f1
      simp at e0 e1
      subst e0 e1
      exact ⟨⟨k, s⟩, rfl, bounds_i64 wk, bounds_i64 ws⟩
theorem iv_one {n : Nat} {cs : Array Value} {x : DataW H × List MemPlace} (hcs : cs.size = Tryz.prog.cellsOf 23) (h : DataW.trod enc' Tryz.prog W 0 (fun _ => true) true n 23 (Value.agg cs).cells.toList = some x) :
    ∃ t : Iv, cs = #[.int .i64 t.lev, .int .i64 t.idx] ∧ t.ok := by
  obtain ⟨t, ht, hok⟩ := iv_of n _ x h
  refine ⟨t, ?_, hok⟩
  have : cs.toList = t.cells := by simpa [Value.cells] using ht
  apply Array.toList_inj.1
  rw [this]; rfl
end
end Go.Proofs.YtiafamfnbpbfiaaGreatDoor
