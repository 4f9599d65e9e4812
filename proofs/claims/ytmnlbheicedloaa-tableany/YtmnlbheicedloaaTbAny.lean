/- TableAny's two rows: entries and the filters that were named, each clear of the other. -/
import Derived.Test.YtmnlbheicedloaaTbAnyM
import Derived.Test.YtmnlbheicedloaaTbChild
import Derived.Test.YtmnlbheicedloaaTbTake
import Derived.Test.YtmnlbheicedloaaOwnSrc
namespace Go.Proofs.Ytmnlbheicedloaa
open Go.ChangeShapes Go.WideShapes Go.ChangeAt Go.RowKit
set_option linter.unusedVariables false

structure AnyS (w wr : World) (v3 v5 : Value) (Y : List Ep) (all : List ByteArray) : Prop where
  ro : ERow w wr v3 Y
  al : wr.ownsRow w.heap.size 9 1 v5 all.length (all.map Value.string)
  ap : ∀ b, v3.ownBlock = some b → v5.ownBlock ≠ some b
  fc : ∀ y ∈ Y, ∀ b, y.a = some b → v5.ownBlock ≠ some b.block
theorem AnyS.below {w wr w' : World} {v3 v5 : Value} {Y : List Ep} {all : List ByteArray} (h : AnyS w wr v3 v5 Y all) (hb : Below wr.heap.size wr w') : AnyS w w' v3 v5 Y all :=
  ⟨h.ro.below hb, row_atJ h.al (fun k hk => hb.block k (h.al.lt k hk).2), h.ap, h.fc⟩
theorem AnyS.new (w : World) : AnyS w ((w.alloc (.cells #[] 32)).alloc (.cells #[] 9)) (.slice (some ⟨w.heap.size, 0, none⟩) 0 0) (.slice (some ⟨w.heap.size + 1, 0, none⟩) 0 0) [] [] := by
  refine ⟨⟨⟨rfl, .inr ⟨w.heap.size, 0, #[], rfl, Nat.le_refl _, ?_, Nat.le_refl _, Nat.zero_le _, rfl, rfl⟩⟩, (fun y hy => by cases hy), ((Below.refl _ _).alloc (Nat.le_refl _) _).alloc (by simp) _⟩, ⟨rfl, .inr ⟨w.heap.size + 1, 0, #[], rfl, by omega, ?_, Nat.le_refl _, Nat.zero_le _, rfl, rfl⟩⟩, (fun b hb e => by simp [Value.ownBlock] at hb e; omega), (fun y hy => by cases hy)⟩
  · rw [Below.heap_alloc _ _ _ (by simp)]; exact heap_alloc_new w _
  · have := heap_alloc_new (w.alloc (.cells #[] 32)) (.cells #[] 9); simpa using this
theorem srcTx (w : World) (s : ByteArray) (x : Nat) (hx : x = w.heap.size) :
    Src Try.prog 1 30 (.slice (some ⟨x, 0, none⟩) 1 1) 1 [.string s] (w.alloc (.cells #[.string s] 9)) :=
  Src.ofSlice _ Try.underlying30 _ 1 1 _ rfl (fun j u hu => by
    subst hx
    have := World.news_of_block (cs := #[.string s]) (t := 9) (fr := (0, 0)) (heap_alloc_new w _) j u (by simpa using hu)
    exact this) (by simp [Value.oneCell'])
/-- One more entry. -/
theorem AnyS.appE {w wr w2 : World} {v3 v3' v5 : Value} {Y : List Ep} {all : List ByteArray} {x : Ep} (h : AnyS w wr v3 v5 Y all) (hx : StrIn wr x.a x.ln x.fs) (hl : x.ln ≤ 100000) (hc : ∀ b, x.a = some b → b.block < wr.heap.size ∧ v3.ownBlock ≠ some b.block ∧ v5.ownBlock ≠ some b.block)
    (ha : Appended5 w.heap.size 32 wr w2 v3 v3' (Y.length + 1) (Y.flatMap Ep.cells ++ x.cells)) : AnyS w w2 v3' v5 (Y ++ [x]) all := by
  have hg := ha.grown
  refine ⟨h.ro.app hx hl (fun b hb => ⟨(hc b hb).1, (hc b hb).2.1⟩) ha, row_atJ h.al (fun k hk => hg.block k (h.al.lt k hk).2 (fun e => h.ap k e.symm hk)), fun b hb e => ?_, fun y hy b hb => ?_⟩
  · rcases ha.new b hb with q | q
    · exact h.ap b q e
    · have := (h.al.lt b e).2; omega
  · rcases List.mem_append.1 hy with q | q
    · exact h.fc y q b hb
    · rw [List.mem_singleton.1 q] at hb; exact (hc b hb).2.2
/-- One more filter. -/
theorem AnyS.appS {w wr w2 : World} {v3 v5 v5' : Value} {Y : List Ep} {all : List ByteArray} {f : ByteArray} (h : AnyS w wr v3 v5 Y all)
    (ha : Appended w.heap.size 9 wr w2 v5 v5' (all.length + 1) (all.map Value.string ++ [.string f])) : AnyS w w2 v3 v5' Y (all ++ [f]) := by
  have hg := ha.grown
  have hbk : ∀ k, k < wr.heap.size → v5.ownBlock ≠ some k → w2.heap[k]? = wr.heap[k]? := fun k hk hne => hg.block k hk (fun e => hne e.symm)
  refine ⟨⟨row_atJ h.ro.row (fun k hk => hbk k (h.ro.row.lt k hk).2 (h.ap k hk)), fun y hy => ?_, ?_⟩, ?_, fun b hb e => ?_, fun y hy b hb e => ?_⟩
  · obtain ⟨f1, f2, f3⟩ := h.ro.fil y hy
    exact ⟨f1.at hg.size (fun b hb => hbk _ (f3 b hb).1 (h.fc y hy b hb)), f2, fun b hb => ⟨Nat.lt_of_lt_of_le (f3 b hb).1 hg.size, (f3 b hb).2⟩⟩
  · exact h.ro.bel.trans ⟨hg.os, hg.tape, hg.output, hg.size, fun k hk => hbk k (Nat.lt_of_lt_of_le hk h.ro.bel.size) (fun e => by have := (h.al.lt k e).1; omega)⟩
  · have := ha.row; simpa using this
  · rcases ha.new b e with q | q
    · exact h.ap b hb q
    · have := (h.ro.row.lt b hb).2; omega
  · rcases ha.new b.block e with q | q
    · exact h.fc y hy b hb q
    · have := ((h.ro.fil y hy).2.2 b hb).1; omega
end Go.Proofs.Ytmnlbheicedloaa
