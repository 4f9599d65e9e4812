/- An attribute, a value, a predicate that came in. -/
import Derived.Test.YthpcaaidimmafaaValRows
namespace Go.Proofs.Ythpcaaidimmafaa
open Go.ChangeShapes Go.WideShapes Go.ChangeAt Go.RowKit Go.Deep
set_option linter.unusedVariables false
section
variable {H : Type} {enc' : TypeId × Value → H} {W : World}
theorem vl_one {n : Nat} {cs : Array Value} {x : DataW H × List MemPlace} (hcs : cs.size = Try.prog.cellsOf 44) (h : DataW.trod enc' Try.prog W 0 (fun _ => true) true n 44 (Value.agg cs).cells.toList = some x) :
    ∃ t : Vl, cs = #[.int .i64 t.num, .string t.str] ∧ t.ok := by
  obtain ⟨t, ht, hok⟩ := vl_of n _ x h
  refine ⟨t, ?_, hok⟩
  have : cs.toList = t.cells := by simpa [Value.cells] using ht
  apply Array.toList_inj.1
  rw [this]; rfl
theorem at_one {n : Nat} {cs : Array Value} {x : DataW H × List MemPlace} (hcs : cs.size = Try.prog.cellsOf 42) (h : DataW.trod enc' Try.prog W 0 (fun _ => true) true n 42 (Value.agg cs).cells.toList = some x) :
    ∃ t : At, cs = #[.string t.name, .int .i64 t.kind, .int .i64 t.mn, .int .i64 t.mx] ∧ t.ok := by
  obtain ⟨t, ht, hok⟩ := at_of n _ x h
  refine ⟨t, ?_, hok⟩
  have : cs.toList = t.cells := by simpa [Value.cells] using ht
  apply Array.toList_inj.1
  rw [this]; rfl
theorem pd_one {n : Nat} {cs : Array Value} {x : DataW H × List MemPlace} (hcs : cs.size = Try.prog.cellsOf 46) (h : DataW.trod enc' Try.prog W 0 (fun _ => true) true n 46 (Value.agg cs).cells.toList = some x) :
    ∃ t : Pd, cs = #[.string t.name, .int .i64 t.op, .int .i64 t.lo, .int .i64 t.hi, .string t.str] ∧ t.ok := by
  obtain ⟨t, ht, hok⟩ := pd_of n _ x h
  refine ⟨t, ?_, hok⟩
  have : cs.toList = t.cells := by simpa [Value.cells] using ht
  apply Array.toList_inj.1
  rw [this]; rfl
end
end Go.Proofs.Ythpcaaidimmafaa
