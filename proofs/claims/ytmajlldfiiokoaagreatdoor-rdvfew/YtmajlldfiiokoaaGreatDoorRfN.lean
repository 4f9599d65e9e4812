/- The document's New: four rows that grow behind one box; behind. -/
import Derived.Test.YtmajlldfiiokoaaGreatDoorRfJ
import Derived.Test.YtmajlldfiiokoaaGreatDoorJoinRfN0
namespace Go.Proofs.YtmajlldfiiokoaaGreatDoor
open Go.ChangeShapes Go.WideShapes Go.ChangeAt Go.RowKit Go.Deep
set_option linter.unusedVariables false

theorem bh_next {l : List Int} {x : Int} {c n : Int} (hc : 0 ≤ n ∧ n < 4) (hn : l.getD n.toNat 0 ≠ x) (hmin : ∀ m : Int, 0 ≤ m → m < 4 → m ≠ n → l.getD m.toNat 0 ≠ x → dist x (l.getD n.toNat 0) < dist x (l.getD m.toNat 0)) : bhF l x 4 = n := by
  rcases bhF_spec l x 4 with ⟨_, h2⟩ | ⟨h1, h2, h3, h4⟩
  · exact absurd (h2 n.toNat (by omega)) hn
  · by_cases e : bhF l x 4 = n
    · exact e
    · have q1 := hmin _ h1 h2 e h3
      have q2 := h4 n.toNat (by omega) hn
      omega
theorem dist_lt {x a b : Int} (hx : Plc x) (ha : Plc a) (hb : Plc b) (h : (x < a ∧ a < b) ∨ (b < x ∧ x < a) ∨ (a < b ∧ b < x)) : dist x a < dist x b := by
  unfold Plc at hx ha hb
  unfold dist
  omega
theorem Circ.bh {l C : List Int} {c0 c1 c2 c3 : Int} (h : Circ l C c0 c1 c2 c3) (hr : l.getD c0.toNat 0 < l.getD c1.toNat 0 ∧ l.getD c1.toNat 0 < l.getD c2.toNat 0 ∧ l.getD c2.toNat 0 < l.getD c3.toNat 0) (hu : ∀ k : Nat, Plc (l.getD k 0)) :
    bhF l (l.getD c0.toNat 0) 4 = c1 ∧ bhF l (l.getD c1.toNat 0) 4 = c2 ∧ bhF l (l.getD c2.toNat 0) 4 = c3 ∧ bhF l (l.getD c3.toNat 0) 4 = c0 := by
  have r := h.rng
  have hall := h.all
  have key : ∀ (x n : Int), n ∈ [c0, c1, c2, c3] → l.getD n.toNat 0 ≠ x → (∀ m ∈ [c0, c1, c2, c3], m ≠ n → l.getD m.toNat 0 ≠ x → dist x (l.getD n.toNat 0) < dist x (l.getD m.toNat 0)) → bhF l x 4 = n := fun x n hn hne hm =>
    bh_next (c := 0) (r n hn) hne (fun m h0 h1 h2 h3 => hm m (hall m h0 h1) h2 h3)
  have u0 := hu c0.toNat; have u1 := hu c1.toNat; have u2 := hu c2.toNat; have u3 := hu c3.toNat
  refine ⟨key _ c1 (by simp) (by omega) ?_, key _ c2 (by simp) (by omega) ?_, key _ c3 (by simp) (by omega) ?_, key _ c0 (by simp) (by omega) ?_⟩
  all_goals
    intro m hm h1 h2
    simp only [List.mem_cons, List.not_mem_nil, or_false] at hm
    rcases hm with rfl | rfl | rfl | rfl
    all_goals first
      | exact absurd rfl h1
      | exact absurd rfl h2
      | exact dist_lt (by assumption) (by assumption) (by assumption) (by omega)
def nx (l : List Int) (n : Int) : Int := bhF l (l.getD n.toNat 0) 4
/-- What New lets a base member know. -/
theorem new_kn {l C : List Int} {c0 c1 c2 c3 : Int} (h : Circ l C c0 c1 c2 c3) (hr : l.getD c0.toNat 0 < l.getD c1.toNat 0 ∧ l.getD c1.toNat 0 < l.getD c2.toNat 0 ∧ l.getD c2.toNat 0 < l.getD c3.toNat 0) (hu : ∀ k : Nat, Plc (l.getD k 0)) (n : Int) (h0 : 0 ≤ n) (h4 : n < 4) :
    (newTo l C 4).kn n = some ⟨l.getD n.toNat 0, nx l (nx l (nx l n)), [nx l n, nx l (nx l n), nx l (nx l (nx l n))]⟩ ∧ (0 ≤ nx l n ∧ nx l n < 4) ∧ (newTo l C 4).idOf n = l.getD n.toNat 0 ∧ ((newTo l C 4).pl n).isSome = true := by
  have hb := h.bh hr hu
  have hk := h.kn
  have hrg := h.rng
  have hp := newTo_pl l C 4
  have hl : ∀ x p, (newTo l C 4).kn x = some p → ((newTo l C 4).pl x).isSome = true := fun x p e => hp x (by simp [Rg.lives, e])
  have e0 : nx l c0 = c1 := hb.1
  have e1 : nx l c1 = c2 := hb.2.1
  have e2 : nx l c2 = c3 := hb.2.2.1
  have e3 : nx l c3 = c0 := hb.2.2.2
  have hm := h.all n h0 h4
  simp only [List.mem_cons, List.not_mem_nil, or_false] at hm
  rcases hm with rfl | rfl | rfl | rfl
  · rw [e0, e1, e2]; exact ⟨hk.1, hrg _ (by simp), hk.2.2.2.2.1, hl _ _ hk.1⟩
  · rw [e1, e2, e3]; exact ⟨hk.2.1, hrg _ (by simp), hk.2.2.2.2.2.1, hl _ _ hk.2.1⟩
  · rw [e2, e3, e0]; exact ⟨hk.2.2.1, hrg _ (by simp), hk.2.2.2.2.2.2.1, hl _ _ hk.2.2.1⟩
  · rw [e3, e0, e1]; exact ⟨hk.2.2.2.1, hrg _ (by simp), hk.2.2.2.2.2.2.2.1, hl _ _ hk.2.2.2.1⟩

/-- Four rows of one's own behind a box. -/
structure NwA (B : Nat) (w0 w : World) (b : Nat) (v0 v1 v2 v3 : Value) (U L : List Bool) (I : List Int) (P : List Pr3) : Prop where
  box : w.heap[b]? = some (.cells #[v0, v1, v2, v3] 32 (0, 0))
  u : w.ownsRow B 4 1 v0 U.length (bl U)
  l : w.ownsRow B 4 1 v1 L.length (bl L)
  i : w.ownsRow B 58 1 v2 I.length (ul I)
  p : w.ownsRow B 140 3 v3 P.length (pl3 P)
  a01 : ∀ g, v0.ownBlock = some g → v1.ownBlock ≠ some g
  a02 : ∀ g, v0.ownBlock = some g → v2.ownBlock ≠ some g
  a03 : ∀ g, v0.ownBlock = some g → v3.ownBlock ≠ some g
  a12 : ∀ g, v1.ownBlock = some g → v2.ownBlock ≠ some g
  a13 : ∀ g, v1.ownBlock = some g → v3.ownBlock ≠ some g
  a23 : ∀ g, v2.ownBlock = some g → v3.ownBlock ≠ some g
  lo : b < B
  b0 : w0.heap.size < b
  res : w.heap[w0.heap.size]? = some (.cells #[.slice none 0 0, .slice none 0 0, .slice none 0 0, .slice none 0 0] 32 (0, 0))
  bel : Below w0.heap.size w0 w
theorem NwA.below {B : Nat} {w0 w w' : World} {b : Nat} {v0 v1 v2 v3 : Value} {U L : List Bool} {I : List Int} {P : List Pr3} (h : NwA B w0 w b v0 v1 v2 v3 U L I P) (hb : Below w.heap.size w w') : NwA B w0 w' b v0 v1 v2 v3 U L I P :=
  ⟨(hb.block b (lt_of_block h.box)).trans h.box, row_below h.u hb, row_below h.l hb, row_below h.i hb, row_below h.p hb, h.a01, h.a02, h.a03, h.a12, h.a13, h.a23, h.lo, h.b0, (hb.block _ (lt_of_block h.res)).trans h.res, h.bel.trans (hb.mono h.bel.size)⟩
theorem NwA.app0 {B : Nat} {w0 w w1 : World} {b : Nat} {v0 v1 v2 v3 v' : Value} {U L : List Bool} {I : List Int} {P : List Pr3} {n : Nat} {xs : List Value} (h : NwA B w0 w b v0 v1 v2 v3 U L I P) (x : Bool) (hn : n = (U ++ [x]).length) (hxs : xs = bl (U ++ [x])) (ha : Appended B 4 w w1 v0 v' n xs) : NwA B w0 (w1.setCell ⟨b, 0, none⟩ v') b v' v1 v2 v3 (U ++ [x]) L I P := by
  subst hn hxs
  have hg := ha.grown
  have hlo := h.lo
  have hb0 := h.b0
  have hbl := lt_of_block h.box
  have hset : ∀ g, g ≠ b → (w1.setCell ⟨b, 0, none⟩ v').heap[g]? = w1.heap[g]? := fun g hg => Below.heap_setCell _ _ _ _ (by simpa using hg)
  have hold : ∀ g, g < w.heap.size → v0.ownBlock ≠ some g → w1.heap[g]? = w.heap[g]? := fun g h1 h2 => hg.block g h1 (Ne.symm h2)
  have hbb : w1.heap[b]? = w.heap[b]? := hold b hbl (fun e => by have := (h.u.lt b e).1; omega)
  have hoth : ∀ {k n : Nat} {e : TypeId} {vv : Value} {ys : List Value}, w.ownsRow B e k vv n ys → (∀ g, vv.ownBlock = some g → v0.ownBlock ≠ some g) → (w1.setCell ⟨b, 0, none⟩ v').ownsRow B e k vv n ys := fun hr hne => row_kept hr (fun g hgg => (hset g (by have := (hr.lt g hgg).1; omega)).trans (hold g (hr.lt g hgg).2 (hne g hgg)))
  have hnew : ∀ {k n : Nat} {e : TypeId} {vv : Value} {ys : List Value}, w.ownsRow B e k vv n ys → (∀ g, vv.ownBlock = some g → v0.ownBlock ≠ some g) → ∀ g, v'.ownBlock = some g → vv.ownBlock ≠ some g := fun hr hne g hgg hv => by
    rcases ha.new g hgg with q | q
    · exact hne g hv q
    · have := (hr.lt g hv).2; omega
  have hself : (w1.setCell ⟨b, 0, none⟩ v').ownsRow B 4 1 v' (U ++ [x]).length (bl (U ++ [x])) := row_kept ha.row (fun g hgg => hset g (by have := (ha.row.lt g hgg).1; omega))
  have hbel : Below w0.heap.size w0 (w1.setCell ⟨b, 0, none⟩ v') := (h.bel.trans ⟨hg.os, hg.tape, hg.output, hg.size, fun k hk => hold k (by omega) (fun e => by have := (h.u.lt k e).1; omega)⟩).setCell (by show w0.heap.size ≤ b; omega) _
  exact ⟨by simpa using bx_set (j := 0) (hbb.trans h.box) v', hself, hoth h.l (fun g h1 h2 => h.a01 g h2 h1), hoth h.i (fun g h1 h2 => h.a02 g h2 h1), hoth h.p (fun g h1 h2 => h.a03 g h2 h1), hnew h.l (fun g h1 h2 => h.a01 g h2 h1), hnew h.i (fun g h1 h2 => h.a02 g h2 h1), hnew h.p (fun g h1 h2 => h.a03 g h2 h1), h.a12, h.a13, h.a23, h.lo, h.b0, (hset _ (by omega)).trans ((hold _ (lt_of_block h.res) (fun e => by have := (h.u.lt _ e).1; omega)).trans h.res), hbel⟩
theorem NwA.app1 {B : Nat} {w0 w w1 : World} {b : Nat} {v0 v1 v2 v3 v' : Value} {U L : List Bool} {I : List Int} {P : List Pr3} {n : Nat} {xs : List Value} (h : NwA B w0 w b v0 v1 v2 v3 U L I P) (x : Bool) (hn : n = (L ++ [x]).length) (hxs : xs = bl (L ++ [x])) (ha : Appended B 4 w w1 v1 v' n xs) : NwA B w0 (w1.setCell ⟨b, 1, none⟩ v') b v0 v' v2 v3 U (L ++ [x]) I P := by
  subst hn hxs
  have hg := ha.grown
  have hlo := h.lo
  have hb0 := h.b0
  have hbl := lt_of_block h.box
  have hset : ∀ g, g ≠ b → (w1.setCell ⟨b, 1, none⟩ v').heap[g]? = w1.heap[g]? := fun g hg => Below.heap_setCell _ _ _ _ (by simpa using hg)
  have hold : ∀ g, g < w.heap.size → v1.ownBlock ≠ some g → w1.heap[g]? = w.heap[g]? := fun g h1 h2 => hg.block g h1 (Ne.symm h2)
  have hbb : w1.heap[b]? = w.heap[b]? := hold b hbl (fun e => by have := (h.l.lt b e).1; omega)
  have hoth : ∀ {k n : Nat} {e : TypeId} {vv : Value} {ys : List Value}, w.ownsRow B e k vv n ys → (∀ g, vv.ownBlock = some g → v1.ownBlock ≠ some g) → (w1.setCell ⟨b, 1, none⟩ v').ownsRow B e k vv n ys := fun hr hne => row_kept hr (fun g hgg => (hset g (by have := (hr.lt g hgg).1; omega)).trans (hold g (hr.lt g hgg).2 (hne g hgg)))
  have hnew : ∀ {k n : Nat} {e : TypeId} {vv : Value} {ys : List Value}, w.ownsRow B e k vv n ys → (∀ g, vv.ownBlock = some g → v1.ownBlock ≠ some g) → ∀ g, v'.ownBlock = some g → vv.ownBlock ≠ some g := fun hr hne g hgg hv => by
    rcases ha.new g hgg with q | q
    · exact hne g hv q
    · have := (hr.lt g hv).2; omega
  have hself : (w1.setCell ⟨b, 1, none⟩ v').ownsRow B 4 1 v' (L ++ [x]).length (bl (L ++ [x])) := row_kept ha.row (fun g hgg => hset g (by have := (ha.row.lt g hgg).1; omega))
  have hbel : Below w0.heap.size w0 (w1.setCell ⟨b, 1, none⟩ v') := (h.bel.trans ⟨hg.os, hg.tape, hg.output, hg.size, fun k hk => hold k (by omega) (fun e => by have := (h.l.lt k e).1; omega)⟩).setCell (by show w0.heap.size ≤ b; omega) _
  exact ⟨by simpa using bx_set (j := 1) (hbb.trans h.box) v', hoth h.u h.a01, hself, hoth h.i (fun g h1 h2 => h.a12 g h2 h1), hoth h.p (fun g h1 h2 => h.a13 g h2 h1), (fun g h1 h2 => hnew h.u h.a01 g h2 h1), h.a02, h.a03, hnew h.i (fun g h1 h2 => h.a12 g h2 h1), hnew h.p (fun g h1 h2 => h.a13 g h2 h1), h.a23, h.lo, h.b0, (hset _ (by omega)).trans ((hold _ (lt_of_block h.res) (fun e => by have := (h.l.lt _ e).1; omega)).trans h.res), hbel⟩
theorem NwA.app2 {B : Nat} {w0 w w1 : World} {b : Nat} {v0 v1 v2 v3 v' : Value} {U L : List Bool} {I : List Int} {P : List Pr3} {n : Nat} {xs : List Value} (h : NwA B w0 w b v0 v1 v2 v3 U L I P) (x : Int) (hn : n = (I ++ [x]).length) (hxs : xs = ul (I ++ [x])) (ha : Appended B 58 w w1 v2 v' n xs) : NwA B w0 (w1.setCell ⟨b, 2, none⟩ v') b v0 v1 v' v3 U L (I ++ [x]) P := by
  subst hn hxs
  have hg := ha.grown
  have hlo := h.lo
  have hb0 := h.b0
  have hbl := lt_of_block h.box
  have hset : ∀ g, g ≠ b → (w1.setCell ⟨b, 2, none⟩ v').heap[g]? = w1.heap[g]? := fun g hg => Below.heap_setCell _ _ _ _ (by simpa using hg)
  have hold : ∀ g, g < w.heap.size → v2.ownBlock ≠ some g → w1.heap[g]? = w.heap[g]? := fun g h1 h2 => hg.block g h1 (Ne.symm h2)
  have hbb : w1.heap[b]? = w.heap[b]? := hold b hbl (fun e => by have := (h.i.lt b e).1; omega)
  have hoth : ∀ {k n : Nat} {e : TypeId} {vv : Value} {ys : List Value}, w.ownsRow B e k vv n ys → (∀ g, vv.ownBlock = some g → v2.ownBlock ≠ some g) → (w1.setCell ⟨b, 2, none⟩ v').ownsRow B e k vv n ys := fun hr hne => row_kept hr (fun g hgg => (hset g (by have := (hr.lt g hgg).1; omega)).trans (hold g (hr.lt g hgg).2 (hne g hgg)))
  have hnew : ∀ {k n : Nat} {e : TypeId} {vv : Value} {ys : List Value}, w.ownsRow B e k vv n ys → (∀ g, vv.ownBlock = some g → v2.ownBlock ≠ some g) → ∀ g, v'.ownBlock = some g → vv.ownBlock ≠ some g := fun hr hne g hgg hv => by
    rcases ha.new g hgg with q | q
    · exact hne g hv q
    · have := (hr.lt g hv).2; omega
  have hself : (w1.setCell ⟨b, 2, none⟩ v').ownsRow B 58 1 v' (I ++ [x]).length (ul (I ++ [x])) := row_kept ha.row (fun g hgg => hset g (by have := (ha.row.lt g hgg).1; omega))
  have hbel : Below w0.heap.size w0 (w1.setCell ⟨b, 2, none⟩ v') := (h.bel.trans ⟨hg.os, hg.tape, hg.output, hg.size, fun k hk => hold k (by omega) (fun e => by have := (h.i.lt k e).1; omega)⟩).setCell (by show w0.heap.size ≤ b; omega) _
  exact ⟨by simpa using bx_set (j := 2) (hbb.trans h.box) v', hoth h.u h.a02, hoth h.l h.a12, hself, hoth h.p (fun g h1 h2 => h.a23 g h2 h1), h.a01, (fun g h1 h2 => hnew h.u h.a02 g h2 h1), h.a03, (fun g h1 h2 => hnew h.l h.a12 g h2 h1), h.a13, hnew h.p (fun g h1 h2 => h.a23 g h2 h1), h.lo, h.b0, (hset _ (by omega)).trans ((hold _ (lt_of_block h.res) (fun e => by have := (h.i.lt _ e).1; omega)).trans h.res), hbel⟩
theorem NwA.app3 {B : Nat} {w0 w w1 : World} {b : Nat} {v0 v1 v2 v3 v' : Value} {U L : List Bool} {I : List Int} {P : List Pr3} {n : Nat} {xs : List Value} (h : NwA B w0 w b v0 v1 v2 v3 U L I P) (x : Pr3) (hn : n = (P ++ [x]).length) (hxs : xs = pl3 (P ++ [x])) (ha : Appended3 B 140 w w1 v3 v' n xs) : NwA B w0 (w1.setCell ⟨b, 3, none⟩ v') b v0 v1 v2 v' U L I (P ++ [x]) := by
  subst hn hxs
  have hg := ha.grown
  have hlo := h.lo
  have hb0 := h.b0
  have hbl := lt_of_block h.box
  have hset : ∀ g, g ≠ b → (w1.setCell ⟨b, 3, none⟩ v').heap[g]? = w1.heap[g]? := fun g hg => Below.heap_setCell _ _ _ _ (by simpa using hg)
  have hold : ∀ g, g < w.heap.size → v3.ownBlock ≠ some g → w1.heap[g]? = w.heap[g]? := fun g h1 h2 => hg.block g h1 (Ne.symm h2)
  have hbb : w1.heap[b]? = w.heap[b]? := hold b hbl (fun e => by have := (h.p.lt b e).1; omega)
  have hoth : ∀ {k n : Nat} {e : TypeId} {vv : Value} {ys : List Value}, w.ownsRow B e k vv n ys → (∀ g, vv.ownBlock = some g → v3.ownBlock ≠ some g) → (w1.setCell ⟨b, 3, none⟩ v').ownsRow B e k vv n ys := fun hr hne => row_kept hr (fun g hgg => (hset g (by have := (hr.lt g hgg).1; omega)).trans (hold g (hr.lt g hgg).2 (hne g hgg)))
  have hnew : ∀ {k n : Nat} {e : TypeId} {vv : Value} {ys : List Value}, w.ownsRow B e k vv n ys → (∀ g, vv.ownBlock = some g → v3.ownBlock ≠ some g) → ∀ g, v'.ownBlock = some g → vv.ownBlock ≠ some g := fun hr hne g hgg hv => by
    rcases ha.new g hgg with q | q
    · exact hne g hv q
    · have := (hr.lt g hv).2; omega
  have hself : (w1.setCell ⟨b, 3, none⟩ v').ownsRow B 140 3 v' (P ++ [x]).length (pl3 (P ++ [x])) := row_kept ha.row (fun g hgg => hset g (by have := (ha.row.lt g hgg).1; omega))
  have hbel : Below w0.heap.size w0 (w1.setCell ⟨b, 3, none⟩ v') := (h.bel.trans ⟨hg.os, hg.tape, hg.output, hg.size, fun k hk => hold k (by omega) (fun e => by have := (h.p.lt k e).1; omega)⟩).setCell (by show w0.heap.size ≤ b; omega) _
  exact ⟨by simpa using bx_set (j := 3) (hbb.trans h.box) v', hoth h.u h.a03, hoth h.l h.a13, hoth h.i h.a23, hself, h.a01, h.a02, (fun g h1 h2 => hnew h.u h.a03 g h2 h1), h.a12, (fun g h1 h2 => hnew h.l h.a13 g h2 h1), (fun g h1 h2 => hnew h.i h.a23 g h2 h1), h.lo, h.b0, (hset _ (by omega)).trans ((hold _ (lt_of_block h.res) (fun e => by have := (h.p.lt _ e).1; omega)).trans h.res), hbel⟩
theorem bl_snoc (U : List Bool) (x : Bool) : bl U ++ [.bool x] = bl (U ++ [x]) := by simp [bl]
theorem ul_snoc (U : List Int) (x : Int) : ul U ++ [.int .u64 x] = ul (U ++ [x]) := by simp [ul]
theorem pl_snoc (P : List Pr3) (x : Pr3) : pl3 P ++ x.cells = pl3 (P ++ [x]) := by simp [pl3]
theorem NwA.setI {B : Nat} {w0 w : World} {b : Nat} {v0 v1 v3 : Value} {gi ci : Nat} {U L : List Bool} {I : List Int} {P : List Pr3} (h : NwA B w0 w b v0 v1 (.slice (some ⟨gi, 0, none⟩) I.length ci) v3 U L I P) (k : Nat) (x : Int) : NwA B w0 (w.setCell ⟨gi, k, none⟩ (.int .u64 x)) b v0 v1 (.slice (some ⟨gi, 0, none⟩) I.length ci) v3 U L (I.set k x) P := by
  have hB := (h.i.lt gi rfl).1
  have hlo := h.lo
  have hb0 := h.b0
  have hs := (h.i.stored k (.int .u64 x)).1
  rw [ul_set] at hs
  have ho : ∀ g, g ≠ gi → (w.setCell ⟨gi, k, none⟩ (.int .u64 x)).heap[g]? = w.heap[g]? := fun g hg => Below.heap_setCell _ _ _ _ (by simpa using hg)
  exact ⟨(ho b (by omega)).trans h.box, row_kept h.u (fun g hg => ho g (fun e => h.a02 g hg (by rw [e]; rfl))), row_kept h.l (fun g hg => ho g (fun e => h.a12 g hg (by rw [e]; rfl))), by rw [List.length_set]; exact hs, row_kept h.p (fun g hg => ho g (fun e => h.a23 gi rfl (by rw [← e]; exact hg))), h.a01, h.a02, h.a03, h.a12, h.a13, h.a23, h.lo, h.b0, (ho _ (by omega)).trans h.res, h.bel.setCell (by show w0.heap.size ≤ gi; omega) _⟩
theorem NwA.setP {B : Nat} {w0 w : World} {b : Nat} {v0 v1 v2 : Value} {gp cp : Nat} {U L : List Bool} {I : List Int} {P : List Pr3} (h : NwA B w0 w b v0 v1 v2 (.slice (some ⟨gp, 0, none⟩) P.length cp) U L I P) {k j : Nat} (hk : k < P.length) (hj : j < 3) (u : Value) (q : Pr3) (hq : q.cells = (P.getD k pr30).cells.set j u) : NwA B w0 (w.setCell ⟨gp, k * 3 + j, none⟩ u) b v0 v1 v2 (.slice (some ⟨gp, 0, none⟩) (P.set k q).length cp) U L I (P.set k q) := by
  have hB := (h.p.lt gp rfl).1
  have hlo := h.lo
  have hb0 := h.b0
  have hs := (h.p.stored (k * 3 + j) u).1
  rw [pl3_set P k j hk hj u q hq] at hs
  have ho : ∀ g, g ≠ gp → (w.setCell ⟨gp, k * 3 + j, none⟩ u).heap[g]? = w.heap[g]? := fun g hg => Below.heap_setCell _ _ _ _ (by simpa using hg)
  rw [List.length_set]
  exact ⟨(ho b (by omega)).trans h.box, row_kept h.u (fun g hg => ho g (fun e => h.a03 g hg (by rw [e]; rfl))), row_kept h.l (fun g hg => ho g (fun e => h.a13 g hg (by rw [e]; rfl))), row_kept h.i (fun g hg => ho g (fun e => h.a23 g hg (by rw [e]; rfl))), by rw [List.length_set]; exact hs, h.a01, h.a02, h.a03, h.a12, h.a13, h.a23, h.lo, h.b0, (ho _ (by omega)).trans h.res, h.bel.setCell (by show w0.heap.size ≤ gp; omega) _⟩
end Go.Proofs.YtmajlldfiiokoaaGreatDoor
