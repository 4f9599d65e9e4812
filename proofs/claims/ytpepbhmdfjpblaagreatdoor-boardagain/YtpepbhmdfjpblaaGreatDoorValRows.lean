/- Schemas, events, filters that came in; rows of the call's own as schemas, events, filters. -/
import Derived.Test.YtpepbhmdfjpblaaGreatDoorInRow
import Derived.Test.YtpepbhmdfjpblaaGreatDoorValAwake
import Derived.Test.YtpepbhmdfjpblaaGreatDoorOwnSrc2
import Derived.Test.YtpepbhmdfjpblaaGreatDoorOwnSrc4
import Derived.Test.YtpepbhmdfjpblaaGreatDoorOwnSrc5
import Derived.Test.YtpepbhmdfjpblaaGreatDoorCut
namespace Go.Proofs.YtpepbhmdfjpblaaGreatDoor
open Go.ChangeShapes Go.WideShapes Go.ChangeAt Go.RowKit Go.Deep
set_option linter.unusedVariables false

def At.ok (t : At) : Prop := t.name.size ≤ 9223372036854775807 ∧ i64 t.kind ∧ i64 t.mn ∧ i64 t.mx
def Vl.ok (t : Vl) : Prop := i64 t.num ∧ t.str.size ≤ 9223372036854775807
def Pd.ok (t : Pd) : Prop := t.name.size ≤ 9223372036854775807 ∧ i64 t.op ∧ i64 t.lo ∧ i64 t.hi ∧ t.str.size ≤ 9223372036854775807
theorem cellsVl : Tryz.prog.cellsOf 87 = 2 := by kernel_rfl
theorem cellsPd : Tryz.prog.cellsOf 148 = 5 := by kernel_rfl
theorem cellsEv : Tryz.prog.cellsOf 44 = 2 := by kernel_rfl
theorem cellsVs : Tryz.prog.cellsOf 42 = 1 := by kernel_rfl
theorem cellsAt : Tryz.prog.cellsOf 78 = 4 := by kernel_rfl

section
variable {H : Type} {enc' : TypeId × Value → H} {W : World}
set_option maxRecDepth 100000 in
theorem at_of (n : Nat) (cs : List Value) (x : DataW H × List MemPlace) (h : DataW.trod enc' Tryz.prog W 0 (fun _ => true) true n 78 cs = some x) : ∃ t : At, cs = t.cells ∧ t.ok := by
  obtain ⟨xs, m, _, _, hl, hlen, hf⟩ := DataW.trod_struct Tryz.underlying78 h
  rw [cellsAt] at hl
  match cs, hl with
  | [c0, c1, c2, c3], _ =>
    match xs, hlen with
    | [y0, y1, y2, y3], _ =>
      have f0 := hf 0 _ rfl
      have f1 := hf 1 _ rfl
      have f2 := hf 2 _ rfl
      have f3 := hf 3 _ rfl
      simp [cellsI1, cellsS1] at f0 f1 f2 f3
      obtain ⟨s, e0, _, ws⟩ := DataW.trod_string Tryz.underlying9 f0
      obtain ⟨k, e1, _, wk⟩ := DataW.trod_int Tryz.underlying3 f1
      obtain ⟨n, e2, _, wn⟩ := DataW.trod_int Tryz.underlying3 f2
      obtain ⟨u, e3, _, wu⟩ := DataW.trod_int Tryz.underlying3 f3
      simp at e0 e1 e2 e3
      subst e0 e1 e2 e3
      exact ⟨⟨s, k, n, u⟩, rfl, ws, bounds_i64 wk, bounds_i64 wn, bounds_i64 wu⟩
set_option maxRecDepth 100000 in
theorem vl_of (n : Nat) (cs : List Value) (x : DataW H × List MemPlace) (h : DataW.trod enc' Tryz.prog W 0 (fun _ => true) true n 87 cs = some x) : ∃ t : Vl, cs = t.cells ∧ t.ok := by
  obtain ⟨xs, m, _, _, hl, hlen, hf⟩ := DataW.trod_struct Tryz.underlying87 h
  rw [cellsVl] at hl
  match cs, hl with
  | [c0, c1], _ =>
    match xs, hlen with
    | [y0, y1], _ =>
      have f0 := hf 0 _ rfl
      have f1 := hf 1 _ rfl
      simp [cellsI1, cellsS1] at f0 f1
      obtain ⟨k, e0, _, wk⟩ := DataW.trod_int Tryz.underlying3 f0
      obtain ⟨s, e1, _, ws⟩ := DataW.trod_string Tryz.underlying9 f1
      simp at e0 e1
      subst e0 e1
      exact ⟨⟨k, s⟩, rfl, bounds_i64 wk, ws⟩
set_option maxRecDepth 100000 in
theorem pd_of (n : Nat) (cs : List Value) (x : DataW H × List MemPlace) (h : DataW.trod enc' Tryz.prog W 0 (fun _ => true) true n 148 cs = some x) : ∃ t : Pd, cs = t.cells ∧ t.ok := by
  obtain ⟨xs, m, _, _, hl, hlen, hf⟩ := DataW.trod_struct Tryz.underlying148 h
  rw [cellsPd] at hl
  match cs, hl with
  | [c0, c1, c2, c3, c4], _ =>
    match xs, hlen with
    | [y0, y1, y2, y3, y4], _ =>
      have f0 := hf 0 _ rfl
      have f1 := hf 1 _ rfl
      have f2 := hf 2 _ rfl
      have f3 := hf 3 _ rfl
      have f4 := hf 4 _ rfl
      simp [cellsI1, cellsS1] at f0 f1 f2 f3 f4
      obtain ⟨s, e0, _, ws⟩ := DataW.trod_string Tryz.underlying9 f0
      obtain ⟨k, e1, _, wk⟩ := DataW.trod_int Tryz.underlying3 f1
      obtain ⟨n, e2, _, wn⟩ := DataW.trod_int Tryz.underlying3 f2
      obtain ⟨u, e3, _, wu⟩ := DataW.trod_int Tryz.underlying3 f3
      obtain ⟨q, e4, _, wq⟩ := DataW.trod_string Tryz.underlying9 f4
      simp at e0 e1 e2 e3 e4
      subst e0 e1 e2 e3 e4
      exact ⟨⟨s, k, n, u, q⟩, rfl, ws, bounds_i64 wk, bounds_i64 wn, bounds_i64 wu, wq⟩
set_option maxRecDepth 100000 in
theorem ev_of {n : Nat} {cs : Array Value} {x : DataW H × List MemPlace} (hcs : cs.size = Tryz.prog.cellsOf 44) (h : DataW.trod enc' Tryz.prog W 0 (fun _ => true) true n 44 (Value.agg cs).cells.toList = some x) :
    ∃ (a : Option Addr) (len cap : Nat) (t : List Vl) (s : ByteArray), cs = #[.slice a len cap, .string s] ∧ InRow 2 Vl.cells Vl.ok vl0 W a len t ∧ s.size ≤ maxLen := by
  obtain ⟨xs, m, _, _, hl, hlen, hf⟩ := DataW.trod_struct Tryz.underlying44 h
  rw [cellsEv] at hcs
  obtain ⟨l⟩ := cs
  match l, hcs with
  | [c0, c1], _ =>
    match xs, hlen with
    | [y0, y1], _ =>
      have f0 := hf 0 _ rfl
      have f1 := hf 1 _ rfl
      simp [cellsVs, cellsS1, Value.cells] at f0 f1
      obtain ⟨s, e1, _, ws⟩ := DataW.trod_string Tryz.underlying9 f1
      simp at e1
      subst e1
      obtain ⟨a, len, cap, rfl⟩ : ∃ a len cap, c0 = .slice a len cap := by
        rcases open_slice Tryz.underlying42 f0 with ⟨hcs, _⟩ | ⟨ad, l, c, m, n, D, Pl, hcs, _⟩
        · simp at hcs; exact ⟨_, _, _, hcs⟩
        · simp at hcs; exact ⟨_, _, _, hcs⟩
      obtain ⟨t, ht⟩ := inrow_of 2 Vl.cells Vl.ok vl0 42 87 Tryz.underlying42 cellsVl (by omega) Vl.cells_len (fun n cs x => vl_of n cs x) (a := a) (len := len) (cap := cap) (by simpa [Value.cells] using f0)
      exact ⟨a, len, cap, t, s, rfl, ht, ws⟩
end

theorem own_cells {α : Type} (enc : α → List Value) (k : Nat) (hk : ∀ a, (enc a).length = k) (d : α) {w : World} {B : Nat} {e : TypeId} {v : Value} {us : List α} (h : w.ownsRow B e k v us.length (us.flatMap enc)) (h0 : 0 < us.length) :
    ∃ g c, v = .slice (some ⟨g, 0, none⟩) us.length c ∧ us.length ≤ c ∧ B ≤ g ∧ g < w.heap.size ∧ ∀ i, i < us.length → ∀ j, j < k → w.cell? ⟨g, i * k + j, none⟩ = (enc (us.getD i d))[j]? := by
  rcases h.2 with ⟨_, h1⟩ | ⟨g, cap, cur, hv, hb, hg, hnc, _⟩
  · omega
  · refine ⟨g, cap, hv, hnc, hb, lt_of_block hg, fun i hi j hj => ?_⟩
    have hx := flat_get enc k hk d us i j hi hj
    have hj' : j < (enc (us.getD i d)).length := by rw [hk]; exact hj
    have e := h.cells (g := g) (by rw [hv]; rfl) (i * k + j) ((enc (us.getD i d))[j]) (by rw [hx, List.getElem?_eq_getElem hj'])
    have ea : (⟨g, 0, none⟩ : Addr).add (i * k + j) = ⟨g, i * k + j, none⟩ := by unfold Addr.add; split <;> simp_all
    rw [ea] at e
    rw [e, List.getElem?_eq_getElem hj']
theorem own_shape {w : World} {B : Nat} {e : TypeId} {k n : Nat} {v : Value} {xs : List Value} (h : w.ownsRow B e k v n xs) : ∃ a c, v = .slice a n c := by
  rcases h.2 with ⟨rfl, h1⟩ | ⟨g, cap, cur, hv, _⟩
  · exact ⟨none, 0, by rw [h1]⟩
  · exact ⟨_, _, hv⟩
theorem AtIn.ofOwn {w : World} {B : Nat} {e : TypeId} {v : Value} {us : List At} (h : w.ownsRow B e 4 v us.length (us.flatMap At.cells)) : AtIn w v us := by
  obtain ⟨a, c, hv⟩ := own_shape h
  refine ⟨a, c, hv, fun h0 => ?_⟩
  obtain ⟨g, c', hv', hc, _, hg, hj⟩ := own_cells At.cells 4 At.cells_len at0 h h0
  rw [hv] at hv'
  simp at hv'
  obtain ⟨rfl, rfl⟩ := hv'
  refine ⟨g, rfl, hg, hc, fun j hjl => ?_⟩
  have e := fun i hi => hj j hjl i hi
  exact ⟨by simpa [At.cells] using e 0 (by omega), by simpa [At.cells] using e 1 (by omega), by simpa [At.cells] using e 2 (by omega), by simpa [At.cells] using e 3 (by omega)⟩
theorem VlIn.ofOwn {w : World} {B : Nat} {e : TypeId} {v : Value} {us : List Vl} (h : w.ownsRow B e 2 v us.length (us.flatMap Vl.cells)) : VlIn w v us := by
  obtain ⟨a, c, hv⟩ := own_shape h
  refine ⟨a, c, hv, fun h0 => ?_⟩
  obtain ⟨g, c', hv', hc, _, hg, hj⟩ := own_cells Vl.cells 2 Vl.cells_len vl0 h h0
  rw [hv] at hv'
  simp at hv'
  obtain ⟨rfl, rfl⟩ := hv'
  refine ⟨g, rfl, hg, hc, fun j hjl => ?_⟩
  have e := fun i hi => hj j hjl i hi
  exact ⟨by simpa [Vl.cells] using e 0 (by omega), by simpa [Vl.cells] using e 1 (by omega)⟩
theorem PdIn.ofOwn {w : World} {B : Nat} {e : TypeId} {v : Value} {us : List Pd} (h : w.ownsRow B e 5 v us.length (us.flatMap Pd.cells)) : PdIn w v us := by
  obtain ⟨a, c, hv⟩ := own_shape h
  refine ⟨a, c, hv, fun h0 => ?_⟩
  obtain ⟨g, c', hv', hc, _, hg, hj⟩ := own_cells Pd.cells 5 Pd.cells_len pd0 h h0
  rw [hv] at hv'
  simp at hv'
  obtain ⟨rfl, rfl⟩ := hv'
  refine ⟨g, rfl, hg, hc, fun j hjl => ?_⟩
  have e := fun i hi => hj j hjl i hi
  exact ⟨by simpa [Pd.cells] using e 0 (by omega), by simpa [Pd.cells] using e 1 (by omega), by simpa [Pd.cells] using e 2 (by omega), by simpa [Pd.cells] using e 3 (by omega), by simpa [Pd.cells] using e 4 (by omega)⟩

theorem own_carry {B : Nat} {w w' : World} {e : TypeId} {k n : Nat} {v : Value} {xs : List Value} (h : w.ownsRow B e k v n xs) (hb : Below w.heap.size w w') : w'.ownsRow B e k v n xs := by
  refine ⟨h.1, ?_⟩
  rcases h.2 with h1 | ⟨g', cap, cur, hv, hbg, hg, hr⟩
  · exact .inl h1
  · exact .inr ⟨g', cap, cur, hv, hbg, (hb.block g' (lt_of_block hg)).trans hg, hr⟩
theorem own_keep {B : Nat} {w w' : World} {e : TypeId} {k n : Nat} {v : Value} {xs : List Value} (h : w.ownsRow B e k v n xs) (row : Option Nat) (hg : w.grownBy w' row) (hne : ∀ b, v.ownBlock = some b → row ≠ some b) : w'.ownsRow B e k v n xs := by
  refine h.kept hg ?_
  cases hv : v.ownBlock with
  | none => exact .inl rfl
  | some b => exact .inr fun e => hne b hv e.symm

/-- Two rows of the call's own, apart from one another; nothing of before has turned. -/
structure Rows2 (B : Nat) (w0 w : World) (e1 e2 : TypeId) (k : Nat) (v1 v2 : Value) (n : Nat) (xs1 xs2 : List Value) : Prop where
  r1 : w.ownsRow B e1 k v1 n xs1
  r2 : w.ownsRow B e2 k v2 n xs2
  ap : ∀ b, v1.ownBlock = some b → v2.ownBlock ≠ some b
  bel : Below B w0 w
  le : B ≤ w.heap.size
theorem Rows2.carry {B : Nat} {w0 w w' : World} {e1 e2 : TypeId} {k n : Nat} {v1 v2 : Value} {xs1 xs2 : List Value} (h : Rows2 B w0 w e1 e2 k v1 v2 n xs1 xs2) (hb : Below w.heap.size w w') : Rows2 B w0 w' e1 e2 k v1 v2 n xs1 xs2 :=
  ⟨own_carry h.r1 hb, own_carry h.r2 hb, h.ap, h.bel.trans (hb.mono h.le), Nat.le_trans h.le hb.size⟩
theorem grown_below {B : Nat} {w0 w w' : World} {e : TypeId} {k n : Nat} {v : Value} {xs : List Value} (hb : Below B w0 w) (hle : B ≤ w.heap.size) (h : w.ownsRow B e k v n xs) (hg : w.grownBy w' v.ownBlock) : Below B w0 w' :=
  hb.trans ⟨hg.os, hg.tape, hg.output, hg.size, fun j hj => hg.block j (by omega) (fun e => by have := (h.lt j e.symm).1; omega)⟩
/-- Appended to the first row, then to the second one. -/
theorem Rows2.step {B : Nat} {w0 w W1 W2 W3 W4 : World} {e1 e2 : TypeId} {k n m : Nat} {v1 v2 v1' v2' : Value} {xs1 xs2 ys1 ys2 : List Value} (h : Rows2 B w0 w e1 e2 k v1 v2 n xs1 xs2) (b1 : Below w.heap.size w W1)
    (r1 : W2.ownsRow B e1 k v1' m ys1) (g1 : W1.grownBy W2 v1.ownBlock) (n1 : ∀ j, v1'.ownBlock = some j → v1.ownBlock = some j ∨ W1.heap.size ≤ j)
    (b2 : Below W2.heap.size W2 W3) (r2 : W4.ownsRow B e2 k v2' m ys2) (g2 : W3.grownBy W4 v2.ownBlock) (n2 : ∀ j, v2'.ownBlock = some j → v2.ownBlock = some j ∨ W3.heap.size ≤ j) :
    Rows2 B w0 W4 e1 e2 k v1' v2' m ys1 ys2 := by
  have h1 := h.carry b1
  have q2 : W2.ownsRow B e2 k v2 n xs2 := own_keep h1.r2 _ g1 (fun b hb e => h1.ap b e hb)
  have q3 : W3.ownsRow B e2 k v2 n xs2 := own_carry q2 b2
  have l2 : ∀ j, v2.ownBlock = some j → j < W1.heap.size := fun j hj => (h1.r2.lt j hj).2
  have ap1 : ∀ b, v1'.ownBlock = some b → v2.ownBlock ≠ some b := fun b hb e => by
    rcases n1 b hb with q | q
    · exact h.ap b q e
    · have := l2 b e; omega
  have r1' : W3.ownsRow B e1 k v1' m ys1 := own_carry r1 b2
  have r1'' : W4.ownsRow B e1 k v1' m ys1 := own_keep r1' _ g2 (fun b hb e => ap1 b hb e)
  have bb2 := grown_below h1.bel h1.le h1.r1 g1
  have le2 : B ≤ W2.heap.size := Nat.le_trans h1.le g1.size
  have bb3 := bb2.trans (b2.mono le2)
  have le3 : B ≤ W3.heap.size := Nat.le_trans le2 b2.size
  refine ⟨r1'', r2, fun b hb e => ?_, grown_below bb3 le3 q3 g2, Nat.le_trans le3 g2.size⟩
  rcases n2 b e with q | q
  · exact ap1 b hb q
  · have := (r1'.lt b hb).2; omega
/-- The second row, where the first one was appended to. -/
theorem Rows2.mid {B : Nat} {w0 w W1 W2 : World} {e1 e2 : TypeId} {k n : Nat} {v1 v2 : Value} {xs1 xs2 : List Value} (h : Rows2 B w0 w e1 e2 k v1 v2 n xs1 xs2) (b1 : Below w.heap.size w W1) (g1 : W1.grownBy W2 v1.ownBlock) : W2.ownsRow B e2 k v2 n xs2 :=
  own_keep (h.carry b1).r2 _ g1 (fun b hb e => h.ap b e hb)
/-- A block that is new behind the two rows stays as it is. -/
theorem Rows2.box {B : Nat} {w0 w W1 W2 : World} {e1 e2 : TypeId} {k n : Nat} {v1 v2 : Value} {xs1 xs2 : List Value} (h : Rows2 B w0 w e1 e2 k v1 v2 n xs1 xs2) (b : Nat) (hb : w.heap.size ≤ b) (hb1 : b < W1.heap.size) (g1 : W1.grownBy W2 v1.ownBlock) : W2.heap[b]? = W1.heap[b]? :=
  g1.block b hb1 (fun e => by have := (h.r1.lt b e.symm).2; omega)
end Go.Proofs.YtpepbhmdfjpblaaGreatDoor
