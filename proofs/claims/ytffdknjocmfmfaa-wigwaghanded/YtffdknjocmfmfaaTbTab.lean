/- A table in memory. -/
import Derived.Test.YtffdknjocmfmfaaTbBsf
import Derived.Test.YtffdknjocmfmfaaInsE
namespace Go.Proofs.Ytffdknjocmfmfaa
open Go.ChangeShapes Go.WideShapes Go.ChangeAt Go.RowKit
set_option linter.unusedVariables false

/-- An entry's filters lie somewhere, clear of the table's own blocks. -/
structure FilOk (w : World) (r : Nat) (v : Value) (x : Ep) : Prop where
  str : StrIn w x.a x.ln x.fs
  le : x.ln ≤ 16
  cl : ∀ b, x.a = some b → b.block < w.heap.size ∧ b.block ≠ r ∧ v.ownBlock ≠ some b.block
structure Tb (w : World) (B r : Nat) (v : Value) (X : List Ep) : Prop where
  box : w.heap[r]? = some (.cells #[v] 26 (0, 0))
  lo : B ≤ r
  row : w.ownsRow B 32 5 v X.length (X.flatMap Ep.cells)
  ne : v.ownBlock ≠ some r
  fil : ∀ x ∈ X, FilOk w r v x
  asc : Asc ltK (X.map Ep.key)
  le : X.length ≤ 400
/-- What stays when a table is written: all but its box and its row. -/
structure KT (w w' : World) (r : Nat) (v v' : Value) : Prop where
  os : w'.os = w.os
  tape : w'.tape = w.tape
  output : w'.output = w.output
  size : w.heap.size ≤ w'.heap.size
  block : ∀ b, b < w.heap.size → b ≠ r → v.ownBlock ≠ some b → w'.heap[b]? = w.heap[b]?
  own : ∀ b, v'.ownBlock = some b → v.ownBlock = some b ∨ w.heap.size ≤ b
theorem KT.ofBelow {w w' : World} {r : Nat} {v : Value} (h : Below w.heap.size w w') : KT w w' r v v := ⟨h.os, h.tape, h.output, h.size, fun b hb _ _ => h.block b hb, fun b hb => .inl hb⟩
theorem KT.trans {a b c : World} {r : Nat} {v v' v'' : Value} (h : KT a b r v v') (h' : KT b c r v' v'') : KT a c r v v'' := by
  refine ⟨h'.os.trans h.os, h'.tape.trans h.tape, h'.output.trans h.output, Nat.le_trans h.size h'.size, fun x hx h1 h2 => ?_, fun x hx => ?_⟩
  · refine (h'.block x (Nat.lt_of_lt_of_le hx h.size) h1 (fun e => ?_)).trans (h.block x hx h1 h2)
    rcases h.own x e with q | q
    · exact h2 q
    · omega
  · rcases h'.own x hx with q | q
    · exact h.own x q
    · exact .inr (Nat.le_trans h.size q)
theorem KT.below {w w' : World} {r B : Nat} {v v' : Value} (h : KT w w' r v v') (hr : B ≤ r) (hv : ∀ b, v.ownBlock = some b → B ≤ b) (hB : B ≤ w.heap.size) : Below B w w' :=
  ⟨h.os, h.tape, h.output, h.size, fun k hk => h.block k (by omega) (by omega) (fun e => by have := hv k e; omega)⟩

theorem Tb.lt {w : World} {B r : Nat} {v : Value} {X : List Ep} (h : Tb w B r v X) : r < w.heap.size := lt_blk h.box
theorem Tb.cell {w : World} {B r : Nat} {v : Value} {X : List Ep} (h : Tb w B r v X) : w.cell? ⟨r, 0, none⟩ = some v := by simp [World.cell?, h.box]
theorem Tb.vlo {w : World} {B r : Nat} {v : Value} {X : List Ep} (h : Tb w B r v X) : ∀ b, v.ownBlock = some b → B ≤ b := fun b hb => (h.row.lt b hb).1
theorem StrIn.at {w w' : World} {a : Option Addr} {len : Nat} {L : List ByteArray} (h : StrIn w a len L) (hz : w.heap.size ≤ w'.heap.size) (hb : ∀ b, a = some b → w'.heap[b.block]? = w.heap[b.block]?) : StrIn w' a len L := by
  refine ⟨h.1, ?_⟩
  rcases h.2 with h0 | ⟨b, o, ha, hlt, hc⟩
  · exact .inl h0
  · exact .inr ⟨b, o, ha, by omega, fun j hj => (World.cell?_of_block (a := ⟨b, o + j, none⟩) (hb ⟨b, o, none⟩ ha)).trans (hc j hj)⟩
theorem FilOk.below {w w' : World} {r : Nat} {v : Value} {x : Ep} (h : FilOk w r v x) (hb : Below w.heap.size w w') : FilOk w' r v x :=
  ⟨h.str.below (Nat.le_refl _) hb, h.le, fun b hx => ⟨Nat.lt_of_lt_of_le (h.cl b hx).1 hb.size, (h.cl b hx).2⟩⟩
theorem Tb.below {w w' : World} {B r : Nat} {v : Value} {X : List Ep} (h : Tb w B r v X) (hb : Below w.heap.size w w') : Tb w' B r v X :=
  ⟨(hb.block r h.lt).trans h.box, h.lo, row_atJ h.row (fun k hk => hb.block k (h.row.lt k hk).2), h.ne, fun x hx => (h.fil x hx).below hb, h.asc, h.le⟩
theorem Tb.shape {w : World} {B r : Nat} {v : Value} {X : List Ep} (h : Tb w B r v X) : ∃ a c, v = .slice a X.length c := by
  rcases h.row.2 with ⟨rfl, h2⟩ | ⟨gg, c, cur, hv, _⟩
  · exact ⟨none, 0, by rw [h2]⟩
  · exact ⟨_, c, hv⟩
/-- The entries, as they are read. -/
theorem Tb.ent {w : World} {B r : Nat} {a : Option Addr} {c : Nat} {X : List Ep} (h : Tb w B r (.slice a X.length c) X) : EntIn w a X.length X := by
  refine ⟨rfl, by have := h.le; omega, ?_⟩
  rcases h.row.2 with ⟨_, h0⟩ | ⟨g, cap, cur, hv, _, hg, _⟩
  · exact .inl h0
  · have hc := h.row.cells (g := g) (by rw [hv]; rfl)
    simp only [Value.slice.injEq] at hv
    refine .inr ⟨g, 0, hv.1, lt_blk hg, fun i hi => ⟨⟨(h.fil _ (getD_memL ep0 X i hi)).str, by have := (h.fil _ (getD_memL ep0 X i hi)).le; omega⟩, fun j hj => ?_⟩⟩
    have hx := flat_get Ep.cells 5 Ep.cells_len ep0 X i j hi hj
    have hj' : j < (X.getD i ep0).cells.length := hj
    have e := hc (i * 5 + j) ((X.getD i ep0).cells[j]) (by rw [hx, List.getElem?_eq_getElem hj'])
    rw [Addr.add_lit] at e
    rw [Nat.add_assoc, e, List.getElem?_eq_getElem hj']
theorem Tb.new (w : World) : Tb (w.alloc (.cells #[.slice none 0 0] 26)) w.heap.size w.heap.size (.slice none 0 0) [] :=
  ⟨heap_alloc_new w _, Nat.le_refl _, World.ownsRow_nil _ _ _ _, by simp [Value.ownBlock], (fun x hx => by cases hx), List.Pairwise.nil, by simp⟩
/-- What an entry wants, cleaned. -/
def cleanW (x : Bool × List ByteArray) : Bool × List ByteArray :=
  match joinE [] [x] with
  | none => (true, [])
  | some acc => (false, acc)
theorem set5 (X : List Ep) (i : Nat) (x : Ep) (hi : i < X.length) :
    (((((X.flatMap Ep.cells).set (i * 5) (.string x.gr)).set (i * 5 + 1) (.int .i64 x.ch)).set (i * 5 + 2) (.slice x.a x.ln x.cp)).set (i * 5 + 3) (.bool x.any)).set (i * 5 + 4) (.int .i64 x.till) = (X.set i x).flatMap Ep.cells := by
  induction X generalizing i with
  | nil => simp at hi
  | cons y X ih =>
    cases i with
    | zero => simp [Ep.cells]
    | succ i =>
      have hi' : i < X.length := by simpa using hi
      have := ih i hi'
      simp only [List.flatMap_cons, List.set_cons_succ, ← this]
      have e : y.cells = [.string y.gr, .int .i64 y.ch, .slice y.a y.ln y.cp, .bool y.any, .int .i64 y.till] := rfl
      rw [e]
      simp only [show (i + 1) * 5 = i * 5 + 5 by omega, show i * 5 + 5 + 1 = i * 5 + 1 + 5 by omega, show i * 5 + 5 + 2 = i * 5 + 2 + 5 by omega, show i * 5 + 5 + 3 = i * 5 + 3 + 5 by omega, show i * 5 + 5 + 4 = i * 5 + 4 + 5 by omega]
      simp only [List.cons_append, List.nil_append, List.set_cons_succ]
theorem setCell_heap {w : World} {g j k : Nat} (h : k ≠ g) (u : Value) : (w.setCell ⟨g, j, none⟩ u).heap[k]? = w.heap[k]? := Below.heap_setCell _ _ _ _ h
theorem FilOk.at {w w' : World} {r : Nat} {v v' : Value} {x : Ep} (h : FilOk w r v x) (hz : w.heap.size ≤ w'.heap.size) (hb : ∀ b, x.a = some b → w'.heap[b.block]? = w.heap[b.block]?) (hv : ∀ b, x.a = some b → v'.ownBlock ≠ some b.block) : FilOk w' r v' x :=
  ⟨h.str.at hz hb, h.le, fun b hx => ⟨Nat.lt_of_lt_of_le (h.cl b hx).1 hz, (h.cl b hx).2.1, hv b hx⟩⟩
/-- An entry takes the place of one with its key. -/
theorem Tb.set {w : World} {B r gr n cp : Nat} {X : List Ep} (h : Tb w B r (.slice (some ⟨gr, 0, none⟩) n cp) X) (hn : n = X.length) {k : Nat} (hk : k < n) (x : Ep) (hkey : x.key = (X.map Ep.key).getD k (ByteArray.empty, 0)) (hx : FilOk w r (.slice (some ⟨gr, 0, none⟩) n cp) x) :
    Tb (((((w.drew.setCell ⟨gr, k * 5, none⟩ (.string x.gr)).setCell ⟨gr, k * 5 + 1, none⟩ (.int .i64 x.ch)).setCell ⟨gr, k * 5 + 2, none⟩ (.slice x.a x.ln x.cp)).setCell ⟨gr, k * 5 + 3, none⟩ (.bool x.any)).setCell ⟨gr, k * 5 + 4, none⟩ (.int .i64 x.till)) B r (.slice (some ⟨gr, 0, none⟩) n cp) (X.set k x) ∧
    KT w (((((w.drew.setCell ⟨gr, k * 5, none⟩ (.string x.gr)).setCell ⟨gr, k * 5 + 1, none⟩ (.int .i64 x.ch)).setCell ⟨gr, k * 5 + 2, none⟩ (.slice x.a x.ln x.cp)).setCell ⟨gr, k * 5 + 3, none⟩ (.bool x.any)).setCell ⟨gr, k * 5 + 4, none⟩ (.int .i64 x.till)) r (.slice (some ⟨gr, 0, none⟩) n cp) (.slice (some ⟨gr, 0, none⟩) n cp) := by
  have hrow : w.drew.ownsRow B 32 5 (.slice (some ⟨gr, 0, none⟩) n cp) n (X.flatMap Ep.cells) := by have := h.row; rw [← hn] at this; exact row_atJ this (fun _ _ => rfl)
  have s1 := (hrow.stored (k * 5) (.string x.gr)).1
  have s2 := (s1.stored (k * 5 + 1) (.int .i64 x.ch)).1
  have s3 := (s2.stored (k * 5 + 2) (.slice x.a x.ln x.cp)).1
  have s4 := (s3.stored (k * 5 + 3) (.bool x.any)).1
  have s5 := (s4.stored (k * 5 + 4) (.int .i64 x.till)).1
  rw [set5 X k x (by omega)] at s5
  obtain ⟨W, hW⟩ : ∃ W, W = ((((w.drew.setCell ⟨gr, k * 5, none⟩ (.string x.gr)).setCell ⟨gr, k * 5 + 1, none⟩ (.int .i64 x.ch)).setCell ⟨gr, k * 5 + 2, none⟩ (.slice x.a x.ln x.cp)).setCell ⟨gr, k * 5 + 3, none⟩ (.bool x.any)).setCell ⟨gr, k * 5 + 4, none⟩ (.int .i64 x.till) := ⟨_, rfl⟩
  have hbk : ∀ b, b ≠ gr → W.heap[b]? = w.heap[b]? := fun b hb => by
    rw [hW]
    exact (setCell_heap hb _).trans ((setCell_heap hb _).trans ((setCell_heap hb _).trans ((setCell_heap hb _).trans ((setCell_heap hb _).trans (show w.drew.heap[b]? = w.heap[b]? from rfl)))))
  have hsc : ∀ (u : World) (p : Addr) (y : Value), (u.setCell p y).heap.size = u.heap.size ∧ (u.setCell p y).os = u.os ∧ (u.setCell p y).tape = u.tape ∧ (u.setCell p y).output = u.output := fun u p y => ⟨by simp [World.setCell], rfl, rfl, rfl⟩
  have hsz : w.heap.size ≤ W.heap.size := by
    rw [hW, (hsc _ _ _).1, (hsc _ _ _).1, (hsc _ _ _).1, (hsc _ _ _).1, (hsc _ _ _).1]; exact Nat.le_refl _
  have hos : W.os = w.os ∧ W.tape = w.tape ∧ W.output = w.output := by
    rw [hW]
    refine ⟨?_, ?_, ?_⟩
    · rw [(hsc _ _ _).2.1, (hsc _ _ _).2.1, (hsc _ _ _).2.1, (hsc _ _ _).2.1, (hsc _ _ _).2.1]; rfl
    · rw [(hsc _ _ _).2.2.1, (hsc _ _ _).2.2.1, (hsc _ _ _).2.2.1, (hsc _ _ _).2.2.1, (hsc _ _ _).2.2.1]; rfl
    · rw [(hsc _ _ _).2.2.2, (hsc _ _ _).2.2.2, (hsc _ _ _).2.2.2, (hsc _ _ _).2.2.2, (hsc _ _ _).2.2.2]; rfl
  rw [← hW] at s5 ⊢
  have hner : r ≠ gr := fun e => h.ne (by rw [e]; rfl)
  have hkm : (X.set k x).map Ep.key = X.map Ep.key := by
    rw [List.map_set, hkey]
    apply List.ext_getElem?
    intro t
    rw [List.getElem?_set]
    by_cases e : k = t
    · subst e
      have : k < (X.map Ep.key).length := by simp; omega
      simp only [if_true, this, List.getD_eq_getElem?_getD, List.getElem?_eq_getElem this]; rfl
    · simp [e]
  have hfar : ∀ y : Ep, FilOk w r (.slice (some ⟨gr, 0, none⟩) n cp) y → FilOk W r (.slice (some ⟨gr, 0, none⟩) n cp) y := fun y hy =>
    hy.at hsz (fun b hb => hbk _ (fun e => (hy.cl b hb).2.2 (by rw [e]; rfl))) (fun b hb => (hy.cl b hb).2.2)
  refine ⟨⟨(hbk r hner).trans h.box, h.lo, by rw [List.length_set, ← hn]; exact s5, h.ne, fun y hy => ?_, by rw [hkm]; exact h.asc, by rw [List.length_set]; exact h.le⟩, ⟨hos.1, hos.2.1, hos.2.2, hsz, fun b hb h1 h2 => hbk b (fun e => h2 (by rw [e]; rfl)), fun b hb => .inl hb⟩⟩
  rcases List.mem_or_eq_of_mem_set hy with q | q
  · exact hfar y (h.fil y q)
  · rw [q]; exact hfar x hx
theorem take5 (X : List Ep) (k : Nat) : (X.flatMap Ep.cells).take (k * 5) = (X.take k).flatMap Ep.cells := flat_take Ep.cells 5 Ep.cells_len X k
theorem drop5 (X : List Ep) (k : Nat) : (X.flatMap Ep.cells).drop (k * 5) = (X.drop k).flatMap Ep.cells := flat_drop Ep.cells 5 Ep.cells_len X k
/-- An entry more. -/
theorem Tb.ins {w W w3 : World} {B r : Nat} {v v' : Value} {X : List Ep} (h : Tb w B r v X) (hw : Below w.heap.size w W) {k : Nat} (x : Ep) (hk : k = lb ltK (X.map Ep.key) x.key) (hnot : x.key ∉ X.map Ep.key) (hx : FilOk w r v x) (hl : X.length < 400)
    (ha : AppendK 5 B 32 W w3 v v' (X.length + 1) ((X.flatMap Ep.cells).take (k * 5) ++ x.cells ++ (X.flatMap Ep.cells).drop (k * 5))) :
    Tb (w3.setCell ⟨r, 0, none⟩ v') B r v' (X.take k ++ [x] ++ X.drop k) ∧ KT w (w3.setCell ⟨r, 0, none⟩ v') r v v' := by
  have hX' : (X.take k ++ [x] ++ X.drop k).flatMap Ep.cells = (X.flatMap Ep.cells).take (k * 5) ++ x.cells ++ (X.flatMap Ep.cells).drop (k * 5) := by
    rw [take5, drop5]; simp
  have hkl : k ≤ X.length := by rw [hk]; have := lb_le (lt := ltK) (X.map Ep.key) x.key; simpa using this
  have hlen : (X.take k ++ [x] ++ X.drop k).length = X.length + 1 := by simp; omega
  have h1 := h.below hw
  have hrl : r < W.heap.size := h1.lt
  have hsz : w.heap.size ≤ w3.heap.size := Nat.le_trans hw.size ha.grown.size
  have hown : ∀ b, v'.ownBlock = some b → v.ownBlock = some b ∨ w.heap.size ≤ b := fun b hb => by
    rcases ha.new b hb with q | q
    · exact .inl q
    · exact .inr (Nat.le_trans hw.size q)
  have hner : v'.ownBlock ≠ some r := fun e => by
    rcases ha.new r e with q | q
    · exact h.ne q
    · omega
  have hb3 : w3.heap[r]? = some (.cells #[v] 26 (0, 0)) := (ha.grown.block r hrl (fun e => h.ne e.symm)).trans h1.box
  have hbk : ∀ b, b < w.heap.size → b ≠ r → v.ownBlock ≠ some b → (w3.setCell ⟨r, 0, none⟩ v').heap[b]? = w.heap[b]? := fun b hb h2 h3 => by
    rw [setCell_heap h2, ha.grown.block b (Nat.lt_of_lt_of_le hb hw.size) (fun e => h3 e.symm), hw.block b hb]
  have hfar : ∀ y : Ep, FilOk w r v y → FilOk (w3.setCell ⟨r, 0, none⟩ v') r v' y := fun y hy =>
    hy.at (by simp [World.setCell]; exact hsz) (fun b hb => hbk _ (hy.cl b hb).1 (hy.cl b hb).2.1 (hy.cl b hb).2.2) (fun b hb e => by
      rcases hown _ e with q | q
      · exact (hy.cl b hb).2.2 q
      · have := (hy.cl b hb).1; omega)
  refine ⟨⟨?_, h.lo, ?_, hner, fun y hy => ?_, ?_, by rw [hlen]; omega⟩, ⟨?_, ?_, ?_, by simp [World.setCell]; exact hsz, hbk, hown⟩⟩
  · simp only [World.setCell, Array.getElem?_modify]; rw [hb3]; simp
  · rw [hX', hlen]
    exact row_atJ ha.row (fun b hb => setCell_heap (fun e => hner (by rw [← e]; exact hb)) _)
  · rcases List.mem_append.1 hy with q | q
    · rcases List.mem_append.1 q with q | q
      · exact hfar y (h.fil y (List.mem_of_mem_take q))
      · rw [List.mem_singleton.1 q]; exact hfar x hx
    · exact hfar y (h.fil y (List.mem_of_mem_drop q))
  · have e : (X.take k ++ [x] ++ X.drop k).map Ep.key = putIn ltK (X.map Ep.key) x.key := by
      unfold putIn; rw [← hk]; simp [List.map_take, List.map_drop]
    rw [e]; exact asc_putIn linK _ h.asc _ hnot
  · exact ha.grown.os.trans hw.os
  · exact ha.grown.tape.trans hw.tape
  · exact ha.grown.output.trans hw.output
end Go.Proofs.Ytffdknjocmfmfaa
