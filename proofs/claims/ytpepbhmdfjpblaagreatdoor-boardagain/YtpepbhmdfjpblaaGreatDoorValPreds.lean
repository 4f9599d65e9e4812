/- wigwaglaw05.Preds: a filter of at most six predicates, and the same as the document's. -/
import Derived.Test.YtpepbhmdfjpblaaGreatDoorValAttrs
import Derived.Deep.AppendSrc
import Derived.Deep.RegionHeld3
import Derived.Deep.RegionLaw
import Derived.Deep.AppendLies
namespace Go.Proofs.YtpepbhmdfjpblaaGreatDoor
open Go.ChangeShapes Go.WideShapes Go.ChangeAt Go.RowKit
set_option linter.unusedVariables false

def cutP (a : Pd) : Pd := ⟨cut a.name 20, a.op, a.lo, a.hi, cut a.str 50⟩
theorem Tryz.infoPdv : (Tryz.prog.info? 148).map (fun i => (i.zero, i.size, i.bytes)) = some (some (.agg #[.string ByteArray.empty, .int .i64 0, .int .i64 0, .int .i64 0, .string ByteArray.empty]), 5, 56) := by kernel_rfl
theorem Tryz.infoRPd : (Tryz.prog.info? 156).map (fun i => (i.zero, i.size, i.bytes)) = some (some (.agg #[.string ByteArray.empty, .int .i64 0, .int .i64 0, .int .i64 0, .string ByteArray.empty]), 5, 56) := by kernel_rfl

theorem src_Pd (w : World) (q : Pd) (x : Nat) (hx : x = w.heap.size) :
    Src Tryz.prog 5 103 (.slice (some ⟨x, 0, none⟩) 1 1) 1 q.cells (w.alloc (.cells #[.string q.name, .int .i64 q.op, .int .i64 q.lo, .int .i64 q.hi, .string q.str] 148)) :=
  Src.ofSlice _ Tryz.underlying103 _ 1 1 _ rfl (fun j u hu => by
    subst hx
    have := World.news_of_block (cs := #[.string q.name, .int .i64 q.op, .int .i64 q.lo, .int .i64 q.hi, .string q.str]) (t := 148) (fr := (0, 0)) (heap_alloc_new w _) j u (by simpa [Pd.cells] using hu)
    exact this) (by simp [Pd.cells, Value.oneCell'])
theorem src_RPd (w : World) (q : Pd) (x : Nat) (hx : x = w.heap.size) :
    Src Tryz.prog 5 110 (.slice (some ⟨x, 0, none⟩) 1 1) 1 q.cells (w.alloc (.cells #[.string q.name, .int .i64 q.op, .int .i64 q.lo, .int .i64 q.hi, .string q.str] 156)) :=
  Src.ofSlice _ Tryz.underlying110 _ 1 1 _ rfl (fun j u hu => by
    subst hx
    have := World.news_of_block (cs := #[.string q.name, .int .i64 q.op, .int .i64 q.lo, .int .i64 q.hi, .string q.str]) (t := 156) (fr := (0, 0)) (heap_alloc_new w _) j u (by simpa [Pd.cells] using hu)
    exact this) (by simp [Pd.cells, Value.oneCell'])
theorem cutP_snoc (t : List Pd) (i : Nat) (hi : i < t.length) : ((t.take (i + 1)).map cutP).flatMap Pd.cells = ((t.take i).map cutP).flatMap Pd.cells ++ (cutP (t.getD i pd0)).cells := by
  rw [List.take_succ_eq_append_getElem hi, List.map_append, List.flatMap_append]
  simp [hi]
end Go.Proofs.YtpepbhmdfjpblaaGreatDoor
