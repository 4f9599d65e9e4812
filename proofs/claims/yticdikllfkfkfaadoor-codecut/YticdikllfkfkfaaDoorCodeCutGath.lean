/- The first loop of CodeCut: numbers and texts are picked, kept in a row and written. -/
import Derived.Test.YticdikllfkfkfaaDoorCodeCutAid
import Derived.Test.YticdikllfkfkfaaDoorOwnSrc4
namespace Go.Proofs.YticdikllfkfkfaaDoor
open Go.ChangeShapes Go.WideShapes Go.ChangeAt Go.RowKit
set_option linter.unusedVariables false

theorem pick_sub {us : List Th} : ∀ u ∈ picked us, u ∈ us ∧ (u.kind = 1 ∨ u.kind = 3) := by
  intro u hu
  have := List.mem_filter.1 hu
  simp at this
  exact this
theorem pick_len (us : List Th) : (picked us).length ≤ us.length := List.length_filter_le _ _
theorem pick_take (us : List Th) (k : Nat) : (picked (us.take k)).length ≤ k := by
  have h1 := pick_len (us.take k)
  have h2 : (us.take k).length ≤ k := by simp; omega
  omega

/-- How the first loop stands behind k things: the writer has the bytes of those that are picked, the row 'in' has them. -/
structure Gath (B : Nat) (w wr : World) (g k : Nat) (us : List Th) (u x : Value) : Prop where
  wri : Wr B wr B u (bytesOf (picked (us.take k)))
  row : wr.ownsRow B 33 4 x (picked (us.take k)).length ((picked (us.take k)).flatMap Th.cells)
  src : ThRow wr g us
  ug : u.ownBlock ≠ some g
  xg : x.ownBlock ≠ some g
  xu : ∀ j, x.ownBlock = some j → u.ownBlock ≠ some j ∧ j ≠ B
  bel : Below B w wr

/-- Another thing is appended: what stands behind it. -/
theorem Gath.app {B : Nat} {w wr w1 : World} {g k n : Nat} {us : List Th} {u x x' : Value} {o1 o2 : Obj} {ys : List Value} (h : Gath B w wr g k us u x)
    (ha : Appended4 B 33 ((wr.alloc o1).alloc o2) w1 x x' n ys) :
    Wr B w1 B u (bytesOf (picked (us.take k))) ∧ ThRow w1 g us ∧ w1.heap[wr.heap.size]? = some o1 ∧ Below B w w1 ∧ wr.heap.size + 2 ≤ w1.heap.size := by
  have hg := ha.grown
  have hsz : wr.heap.size + 2 ≤ w1.heap.size := by have := hg.size; simpa using this
  have old : ∀ j, j < wr.heap.size → x.ownBlock ≠ some j → w1.heap[j]? = wr.heap[j]? := fun j hj hx => by
    rw [hg.block j (by simp; omega) (fun e => hx e.symm), Below.heap_alloc _ _ j (by simp; omega), Below.heap_alloc _ _ j hj]
  refine ⟨h.wri.carry (fun j hj => old j (h.wri.ltRow j hj) (fun e => ?_)), h.src.carry (by omega) (old g h.src.lt h.xg), ?_, ?_, hsz⟩
  · have := h.xu j e
    rcases hj with rfl | hj
    · exact this.2 rfl
    · exact this.1 hj
  · rw [hg.block wr.heap.size (by simp; omega) (fun e => by have := (h.row.lt _ e.symm).2; omega), Below.heap_alloc _ _ _ (by simp)]
    exact heap_alloc_new wr o1
  · have hB : B ≤ wr.heap.size := Nat.le_of_lt h.wri.lt
    exact ((h.bel.alloc hB o1).alloc (by simp; omega) o2).grown hg (by simp; omega) (fun j hj => (h.row.lt j hj).1)

theorem Gath.put {B : Nat} {w wr w1 w2 : World} {g k : Nat} {us : List Th} {u u2 x x' : Value} {o1 o2 : Obj} {t : Th} (h : Gath B w wr g k us u x) (hgB : g ≠ B)
    (ha : Appended4 B 33 ((wr.alloc o1).alloc o2) w1 x x' ((picked (us.take k)).length + 1) ((picked (us.take k)).flatMap Th.cells ++ t.cells))
    (hp : picked (us.take (k + 1)) = picked (us.take k) ++ [t])
    (hW : Wr B w2 B u2 (bytesOf (picked (us.take k)) ++ t.bytes)) (hK : Kept w1 w2 B u u2) : Gath B w w2 g (k + 1) us u2 x' := by
  obtain ⟨hW1, hR1, _, hb1, hsz⟩ := h.app ha
  have ug' := (fun j (hj : u.ownBlock = some j) => (h.wri.row.lt j hj).2)
  have hx' : ∀ j, x'.ownBlock = some j → (x.ownBlock = some j ∨ wr.heap.size + 2 ≤ j) ∧ j < w1.heap.size := fun j hj => by
    refine ⟨?_, (ha.row.lt j hj).2⟩
    rcases ha.new j hj with h1 | h1
    · exact .inl h1
    · exact .inr (by simpa using h1)
  have hgl := h.src.lt
  have hBl := h.wri.lt
  have hxu : ∀ j, x'.ownBlock = some j → u.ownBlock ≠ some j ∧ j ≠ B := fun j hj => by
    rcases (hx' j hj).1 with h1 | h1
    · exact h.xu j h1
    · exact ⟨fun e => by have := ug' j e; omega, by omega⟩
  refine ⟨?_, ?_, hR1.kept hK hgB h.ug, fun e => ?_, fun e => ?_, fun j hj => ?_, hK.below hW1 hb1 (by omega)⟩
  · rw [hp]
    have e : bytesOf (picked (us.take k) ++ [t]) = bytesOf (picked (us.take k)) ++ t.bytes := by unfold bytesOf; rw [List.flatMap_append]; simp
    rw [e]; exact hW
  · rw [hp]
    have e : (picked (us.take k) ++ [t]).flatMap Th.cells = (picked (us.take k)).flatMap Th.cells ++ t.cells := by rw [List.flatMap_append]; simp
    rw [e, List.length_append, List.length_singleton]
    refine ⟨ha.row.1, ?_⟩
    rcases ha.row.2 with h2 | ⟨gg, cap, cur, hv, hgb, hh, r⟩
    · exact .inl h2
    · have hj : x'.ownBlock = some gg := by rw [hv]; rfl
      refine .inr ⟨gg, cap, cur, hv, hgb, ?_, r⟩
      rw [hK.block gg (hx' gg hj).2 (hxu gg hj).2 (fun e => (hxu gg hj).1 e.symm)]; exact hh
  · rcases hK.own g e with h1 | h1
    · exact h.ug h1
    · omega
  · rcases (hx' g e).1 with h1 | h1
    · exact h.xg h1
    · omega
  · refine ⟨fun e => ?_, (hxu j hj).2⟩
    rcases hK.own j e with h1 | h1
    · exact (hxu j hj).1 h1
    · have := (hx' j hj).2; omega

theorem Gath.skip {B : Nat} {w wr : World} {g k : Nat} {us : List Th} {u x : Value} {o1 : Obj} (h : Gath B w wr g k us u x) (hp : picked (us.take (k + 1)) = picked (us.take k)) : Gath B w (wr.alloc o1) g (k + 1) us u x :=
  ⟨by rw [hp]; exact h.wri.alloc o1, by rw [hp]; exact h.row.alloc o1, h.src.alloc o1, h.ug, h.xg, h.xu, h.bel.alloc (Nat.le_of_lt h.wri.lt) o1⟩

theorem src_four (W : World) (t : Th) (x : Nat) (hx : x = W.heap.size) :
    Src Tryd.prog 4 22 (.slice (some ⟨x, 0, none⟩) 1 1) 1 t.cells (W.alloc (.cells #[.int .i64 t.kind, .int .i64 t.n, .int .u64 t.u, .string t.s] 33)) := by
  refine Src.ofSlice _ Tryd.underlying22 _ 1 1 _ rfl (fun j u hu => news_four W t x hx j u hu) ?_
  intro u hu
  simp [Th.cells] at hu
  rcases hu with rfl | rfl | rfl | rfl <;> rfl
end Go.Proofs.YticdikllfkfkfaaDoor
