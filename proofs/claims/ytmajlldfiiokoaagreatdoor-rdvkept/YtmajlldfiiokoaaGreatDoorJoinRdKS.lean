/- A ring, a store, the last plan's circle, what was put: in one memory. -/
import Derived.Test.YtmajlldfiiokoaaGreatDoorJoinRdDo
import Derived.Test.YtmajlldfiiokoaaGreatDoorJoinChOwn
import Derived.Test.YtmajlldfiiokoaaGreatDoorJoinRdKeep
set_option linter.unnecessarySimpa false
namespace Go.Proofs.YtmajlldfiiokoaaGreatDoor
open Go.ChangeShapes Go.WideShapes Go.ChangeAt Go.RowKit Go.Deep
set_option linter.unusedVariables false

theorem Fr.wide {w w' : World} {Z Z' U : Nat → Prop} (f : Fr w w' Z Z') (h : ∀ b, Z b → U b) : Fr w w' U (fun b => U b ∨ Z' b) :=
  ⟨f.os, f.tape, f.output, f.size, fun b hb ho => f.block b hb (fun q => ho (h b q)), fun b hb => by
    rcases hb with e | e
    · exact .inl e
    · rcases f.own b e with q | q
      · exact .inl (h b q)
      · exact .inr q⟩
theorem Fr.out {w w' : World} {Z Z' Y : Nat → Prop} (f : Fr w w' Z Z') (h : ∀ b, Y b → Z' b) : Fr w w' Z Y := ⟨f.os, f.tape, f.output, f.size, f.block, fun b hb => f.own b (h b hb)⟩
theorem Fr.ofKp {w w' : World} {gp gk : Nat} (k : Kp w w' gp gk) : Fr w w' (fun b => b = gp ∨ b = gk) (fun b => b = gp ∨ b = gk) :=
  ⟨k.os, k.tape, k.output, k.size, fun b hb ho => k.block b hb (fun e => ho (.inl e)) (fun e => ho (.inr e)), fun b hb => .inl hb⟩
theorem RingAt.fr {w w' : World} {r gp gk : Nat} {R : Rg} {Z Z' : Nat → Prop} (h : RingAt w r gp gk R) (hl : ∀ k p, R.kn k = some p → p.succ.length = 3) (f : Fr w w' Z Z') (hZ : ∀ b, Z b → R.cl b) (n1 : ¬ Z r) (n2 : ¬ Z gp) (n3 : ¬ Z gk) (D : Nat → Prop) (hD : ∀ b, D b → (R.cl b ∨ w.heap.size ≤ b) ∧ b < w'.heap.size) : RingAt w' r gp gk (R.withCl D) := by
  obtain ⟨mp, hp, hp'⟩ := h.places
  obtain ⟨mk, hk, hk'⟩ := h.known
  have hlt := h.lt
  refine ⟨(f.block r hlt.1 n1).trans h.box, h.ne, ⟨mp, hp.of_block (f.block gp hlt.2.1 n2), hp'⟩, ⟨mk, hk.of_block (f.block gk hlt.2.2 n3), fun k => ?_⟩, h.ids, fun b e => (hD b e).2⟩
  have q := hk' k
  show KnOk w' D (R.kn k) (look mk k)
  cases hp : R.kn k with
  | none =>
    cases hv : look mk k with
    | none => exact trivial
    | some v => rw [hp, hv] at q; exact q.elim
  | some p =>
    cases hv : look mk k with
    | none => rw [hp, hv] at q; exact q.elim
    | some v =>
      rw [hp, hv] at q
      obtain ⟨a, len, cap, e, hpe, hd⟩ := q
      have h3 := hl k p hp
      have h4 := hpe.row.1
      rcases hpe.row.2.2 with h0 | ⟨b, o, ha, hlt, hc⟩
      · omega
      · have hbg : ¬ Z b := fun e => hd _ ha (hZ b e)
        refine ⟨a, len, cap, e, ⟨hpe.hid, hpe.hpred, ⟨hpe.row.1, hpe.row.2.1, .inr ⟨b, o, ha, Nat.lt_of_lt_of_le hlt f.size, fun i hi => ⟨(hc i hi).1, fun j hj => ?_⟩⟩⟩, hpe.hcap, hpe.hmost, hpe.hnil⟩, fun x hx hcl => ?_⟩
        · rw [World.cell?_of_block (f.block b hlt hbg)]
          exact (hc i hi).2 j hj
        · rw [ha] at hx
          cases hx
          rcases (hD b hcl).1 with q | q
          · exact hd _ ha q
          · omega
/-- The store's lower bound goes down. -/
theorem StI.mono {B B' : Nat} {w0 w00 w : World} {s g : Nat} {R : Int → Option Nat} {V : Int → Value} {X : Int → List Ep} (h : StI B w0 w s g R V X) (hB : B' ≤ B) (hb : Below B' w00 w) : StI B' w00 w s g R V X :=
  ⟨hb, ⟨Nat.le_trans hB h.lo.1, Nat.le_trans hB h.lo.2.1, h.lo.2.2.1, Nat.le_trans hB h.lo.2.2.2⟩, h.box, h.mp, fun n r hr => by
    have t := h.tab n r hr
    exact ⟨t.box, Nat.le_trans hB t.lo, own_mono t.row hB, t.ne, t.fil, t.asc, t.le⟩, h.clr, h.sep, h.fs⟩
theorem Stm.mono {B B' : Nat} {w0 w00 w : World} {s g : Nat} {O : Nat → Prop} {A : Int → List Core} (h : Stm B w0 w s g O A) (hB : B' ≤ B) (hb : Below B' w00 w) : Stm B' w00 w s g O A := by
  obtain ⟨R, V, X, h⟩ := h.ex
  exact ⟨R, V, X, h.st.mono hB hb, h.no, h.val, h.own, fun b ho => ⟨Nat.le_trans hB (h.rng b ho).1, (h.rng b ho).2⟩⟩
/-- Others' blocks are written: nothing turns, where each wish takes all. -/
theorem Stm.keep {B : Nat} {w0 w w' : World} {s g : Nat} {O Z Z' : Nat → Prop} {A : Int → List Core} (h : Stm B w0 w s g O A) (ha : AllAny A) (f : Fr w w' Z Z') (hZ : ∀ b, O b → ¬ Z b) (hb : Below B w w') : Stm B w0 w' s g O A := by
  obtain ⟨R, V, X, h⟩ := h.ex
  obtain ⟨m, hm, hl⟩ := h.st.mp
  have ho : ∀ b, O b → w'.heap[b]? = w.heap[b]? := fun b hb => f.block b (h.rng b hb).2 (hZ b hb)
  refine ⟨R, V, X, ⟨h.st.bel.trans hb, ⟨h.st.lo.1, h.st.lo.2.1, h.st.lo.2.2.1, Nat.le_trans h.st.lo.2.2.2 f.size⟩, (ho s h.glt.2).trans h.st.box, ⟨m, hm.of_block (ho g h.glt.1), hl⟩, fun n r hr => ?_, h.st.clr, h.st.sep, h.st.fs⟩, h.no, h.val, h.own, fun b hb' => ⟨(h.rng b hb').1, Nat.lt_of_lt_of_le (h.rng b hb').2 f.size⟩⟩
  have t := h.st.tab n r hr
  refine ⟨(ho r (h.own r (.inr (.inr ⟨n, r, hr, .inl rfl⟩)))).trans t.box, t.lo, row_atJ t.row (fun b hb' => ho b (h.own b (.inr (.inr ⟨n, r, hr, .inr hb'⟩)))), t.ne, fun x hx => ⟨⟨(t.fil x hx).str.1, .inl ?_⟩, (t.fil x hx).le, fun b hb' => ⟨Nat.lt_of_lt_of_le ((t.fil x hx).cl b hb').1 f.size, ((t.fil x hx).cl b hb').2⟩⟩, t.asc, t.le⟩
  have hz := (ha n x.core (by rw [h.val n]; exact List.mem_map_of_mem hx)).2
  have hz2 : x.fs = [] := hz
  have := (t.fil x hx).str.1
  rw [hz2] at this
  simpa using this.symm

/-- The blocks that the store, the circle's box and the two lists write. -/
def mutB (O : Nat → Prop) (q : Nat) (vp vg : Value) (b : Nat) : Prop := O b ∨ b = q ∨ vp.ownBlock = some b ∨ vg.ownBlock = some b
/-- The maps of the ring, too. -/
def allB (O : Nat → Prop) (gp gk q : Nat) (vp vg : Value) (b : Nat) : Prop := mutB O q vp vg b ∨ b = gp ∨ b = gk
/-- Behind some calls: what lies where. -/
structure KM (w wr : World) (r gp gk s g q : Nat) (vp vg : Value) (R Rw : Rg) (Cw : List Int) (g1 c1 d1 n1 : Nat) (b1 : Option Addr) (O : Nat → Prop) (A : Int → List Core) (PX : List Ep) (PG : List ByteArray) : Prop where
  ring : RingAt wr r gp gk R
  inv : Inv R
  cl : ∀ b, mutB O q vp vg b → R.cl b
  bel : Below w.heap.size w wr
  lo : w.heap.size ≤ gp ∧ w.heap.size ≤ gk ∧ w.heap.size ≤ q
  off : ¬ mutB O q vp vg r ∧ ¬ mutB O q vp vg gp ∧ ¬ mutB O q vp vg gk
  stm : Stm w.heap.size w wr s g O A
  dj : ¬ O q ∧ (∀ b, vp.ownBlock = some b → ¬ O b ∧ b ≠ q) ∧ (∀ b, vg.ownBlock = some b → ¬ O b ∧ b ≠ q ∧ vp.ownBlock ≠ some b)
  box : wr.heap[q]? = some (.cells #[.slice (some ⟨g1, 0, none⟩) n1 c1, .slice b1 n1 d1] 50 (0, 0))
  cir : CAo wr Rw Cw g1 c1 d1 n1 b1 (allB O gp gk q vp vg)
  rowp : wr.ownsRow w.heap.size 89 5 vp PX.length (PX.flatMap Ep.cells)
  rowg : wr.ownsRow w.heap.size 9 1 vg PG.length (PG.map Value.string)
section
variable {w wr : World} {r gp gk s g q : Nat} {vp vg : Value} {R Rw : Rg} {Cw : List Int} {g1 c1 d1 n1 : Nat} {b1 : Option Addr} {O : Nat → Prop} {A : Int → List Core} {PX : List Ep} {PG : List ByteArray}
theorem KM.below {w' : World} (h : KM w wr r gp gk s g q vp vg R Rw Cw g1 c1 d1 n1 b1 O A PX PG) (hb : Below wr.heap.size wr w') : KM w w' r gp gk s g q vp vg R Rw Cw g1 c1 d1 n1 b1 O A PX PG :=
  ⟨h.ring.below hb, h.inv, h.cl, h.bel.trans (hb.mono h.bel.size), h.lo, h.off, h.stm.below hb, h.dj, (hb.block _ (lt_blk h.box)).trans h.box, h.cir.below hb, row_atJ h.rowp (fun b hb' => hb.block b (h.rowp.lt b hb').2), row_atJ h.rowg (fun b hb' => hb.block b (h.rowg.lt b hb').2)⟩
theorem KM.mlt (h : KM w wr r gp gk s g q vp vg R Rw Cw g1 c1 d1 n1 b1 O A PX PG) {b : Nat} (hb : mutB O q vp vg b) : w.heap.size ≤ b ∧ b < wr.heap.size := by
  rcases hb with e | e | e | e
  · exact h.stm.rng b e
  · rw [e]; exact ⟨h.lo.2.2, lt_blk h.box⟩
  · exact h.rowp.lt b e
  · exact h.rowg.lt b e
theorem KM.alt (h : KM w wr r gp gk s g q vp vg R Rw Cw g1 c1 d1 n1 b1 O A PX PG) {b : Nat} (hb : allB O gp gk q vp vg b) : w.heap.size ≤ b ∧ b < wr.heap.size := by
  rcases hb with e | e | e
  · exact h.mlt e
  · rw [e]; exact ⟨h.lo.1, h.ring.lt.2.1⟩
  · rw [e]; exact ⟨h.lo.2.1, h.ring.lt.2.2⟩
/-- The ring turns. -/
theorem KM.turn {w' : World} {R' : Rg} (h : KM w wr r gp gk s g q vp vg R Rw Cw g1 c1 d1 n1 b1 O A PX PG) (ha : AllAny A) (hr : RingAt w' r gp gk R') (hi : Inv R') (k : Kp wr w' gp gk) (hc : R'.cl = R.cl) :
    KM w w' r gp gk s g q vp vg R' Rw Cw g1 c1 d1 n1 b1 O A PX PG ∧ Fr wr w' (allB O gp gk q vp vg) (allB O gp gk q vp vg) := by
  have f := Fr.ofKp k
  have hne : ∀ b, mutB O q vp vg b → b ≠ gp ∧ b ≠ gk := fun b hb => ⟨fun e => h.off.2.1 (by rw [← e]; exact hb), fun e => h.off.2.2 (by rw [← e]; exact hb)⟩
  have hbk : ∀ b, mutB O q vp vg b → w'.heap[b]? = wr.heap[b]? := fun b hb => k.block b (h.mlt hb).2 (hne b hb).1 (hne b hb).2
  have hbel : Below w.heap.size wr w' := k.below h.lo.1 h.lo.2.1 h.bel.size
  have ff : Fr wr w' (allB O gp gk q vp vg) (allB O gp gk q vp vg) := (f.wide (U := allB O gp gk q vp vg) (fun b hb => .inr hb)).out (fun b hb => .inl hb)
  exact ⟨⟨hr, hi, fun b hb => by rw [hc]; exact h.cl b hb, h.bel.trans hbel, h.lo, h.off, h.stm.keep ha f (fun b hb e => by
      have := hne b (.inl hb)
      rcases e with e | e
      · exact this.1 e
      · exact this.2 e) hbel, h.dj, (hbk q (.inr (.inl rfl))).trans h.box, h.cir.fr ff, row_atJ h.rowp (fun b hb => hbk b (.inr (.inr (.inl hb)))), row_atJ h.rowg (fun b hb => hbk b (.inr (.inr (.inr hb))))⟩, ff⟩
/-- The store turns. -/
theorem KM.store {w' : World} {O' : Nat → Prop} {A' : Int → List Core} (h : KM w wr r gp gk s g q vp vg R Rw Cw g1 c1 d1 n1 b1 O A PX PG) (hs : Stm w.heap.size w w' s g O' A') (f : Fr wr w' O O') :
    ∃ D, KM w w' r gp gk s g q vp vg (R.withCl D) Rw Cw g1 c1 d1 n1 b1 O' A' PX PG ∧ Fr wr w' (allB O gp gk q vp vg) (allB O' gp gk q vp vg) := by
  have hO' : ∀ b, mutB O' q vp vg b → mutB O q vp vg b ∨ wr.heap.size ≤ b := fun b hb => by
    rcases hb with e | e
    · rcases f.own b e with z | z
      · exact .inl (.inl z)
      · exact .inr z
    · exact .inl (.inr e)
  have hlt : ∀ b, mutB O' q vp vg b → b < w'.heap.size := fun b hb => by
    rcases hb with e | e
    · exact (hs.rng b e).2
    · exact Nat.lt_of_lt_of_le (h.mlt (.inr e)).2 f.size
  have hq := h.dj
  have hnew : ∀ b, b < wr.heap.size → ¬ O b → ¬ O' b := fun b hb ho => f.off hb ho
  have hr := h.ring.lt
  have hoff : ∀ b, b < wr.heap.size → ¬ mutB O q vp vg b → ¬ mutB O' q vp vg b := fun b hb hn e => by
    rcases hO' b e with z | z
    · exact hn z
    · omega
  have hbel : Below w.heap.size wr w' := f.below h.bel.size (fun b hb => (h.stm.rng b hb).1)
  have ff : Fr wr w' (allB O gp gk q vp vg) (allB O' gp gk q vp vg) := (f.wide (U := allB O gp gk q vp vg) (fun b hb => .inl (.inl hb))).out (fun b hb => by
    rcases hb with (e | e) | e
    · exact .inr e
    · exact .inl (.inl (.inr e))
    · exact .inl (.inr e))
  refine ⟨mutB O' q vp vg, ⟨h.ring.fr h.inv.lens f (fun b hb => h.cl b (.inl hb)) (fun e => h.off.1 (.inl e)) (fun e => h.off.2.1 (.inl e)) (fun e => h.off.2.2 (.inl e)) _ (fun b hb => ⟨?_, hlt b hb⟩), h.inv.withCl _, fun b hb => hb, h.bel.trans hbel, h.lo, ⟨hoff r hr.1 h.off.1, hoff gp hr.2.1 h.off.2.1, hoff gk hr.2.2 h.off.2.2⟩, hs, ⟨hnew q (lt_blk h.box) hq.1, fun b hb => ⟨hnew b (h.rowp.lt b hb).2 (hq.2.1 b hb).1, (hq.2.1 b hb).2⟩, fun b hb => ⟨hnew b (h.rowg.lt b hb).2 (hq.2.2 b hb).1, (hq.2.2 b hb).2⟩⟩, (f.block q (lt_blk h.box) hq.1).trans h.box, h.cir.fr ff, row_atJ h.rowp (fun b hb => f.block b (h.rowp.lt b hb).2 (hq.2.1 b hb).1), row_atJ h.rowg (fun b hb => f.block b (h.rowg.lt b hb).2 (hq.2.2 b hb).1)⟩, ff⟩
  rcases hO' b hb with z | z
  · exact .inl (h.cl b z)
  · exact .inr z
/-- What is written is one of the other blocks of one's own: the ring, the store and the circle stay. -/
theorem KM.other {w' : World} {Z Z' : Nat → Prop} {vp' vg' : Value} (h : KM w wr r gp gk s g q vp vg R Rw Cw g1 c1 d1 n1 b1 O A PX PG) (ha : AllAny A) (f : Fr wr w' Z Z') (hZ : ∀ b, Z b → b = q ∨ vp.ownBlock = some b ∨ vg.ownBlock = some b) (hZO : ∀ b, Z b → ¬ O b)
    (hn : ∀ b, mutB O q vp' vg' b → mutB O q vp vg b ∨ wr.heap.size ≤ b) (hlt : ∀ b, mutB O q vp' vg' b → b < w'.heap.size) :
    RingAt w' r gp gk (R.withCl (mutB O q vp' vg')) ∧ Below w.heap.size wr w' ∧ Stm w.heap.size w w' s g O A ∧ (¬ mutB O q vp' vg' r ∧ ¬ mutB O q vp' vg' gp ∧ ¬ mutB O q vp' vg' gk) ∧ CAo w' Rw Cw g1 c1 d1 n1 b1 (allB O gp gk q vp' vg') ∧ Fr wr w' (allB O gp gk q vp vg) (allB O gp gk q vp' vg') := by
  have hZm : ∀ b, Z b → mutB O q vp vg b := fun b hb => .inr (hZ b hb)
  have hr := h.ring.lt
  have hoff : ∀ b, b < wr.heap.size → ¬ mutB O q vp vg b → ¬ mutB O q vp' vg' b := fun b hb hn' e => by
    rcases hn b e with z | z
    · exact hn' z
    · omega
  have hbel : Below w.heap.size wr w' := f.below h.bel.size (fun b hb => (h.mlt (hZm b hb)).1)
  have f0 := f.wide (U := allB O gp gk q vp vg) (fun b hb => .inl (hZm b hb))
  have ff : Fr wr w' (allB O gp gk q vp vg) (allB O gp gk q vp' vg') := ⟨f0.os, f0.tape, f0.output, f0.size, f0.block, fun b hb => by
    rcases hb with e | e
    · rcases hn b e with z | z
      · exact .inl (.inl z)
      · exact .inr z
    · exact .inl (.inr e)⟩
  refine ⟨h.ring.fr h.inv.lens f (fun b hb => h.cl b (hZm b hb)) (fun e => h.off.1 (hZm _ e)) (fun e => h.off.2.1 (hZm _ e)) (fun e => h.off.2.2 (hZm _ e)) _ (fun b hb => ⟨?_, hlt b hb⟩), hbel, h.stm.keep ha f (fun b hb e => hZO b e hb) hbel, ⟨hoff r hr.1 h.off.1, hoff gp hr.2.1 h.off.2.1, hoff gk hr.2.2 h.off.2.2⟩, h.cir.fr ff, ff⟩
  rcases hn b hb with z | z
  · exact .inl (h.cl b z)
  · exact .inr z
theorem Fr.ofGrown {w w' : World} {o : Option Nat} (h : w.grownBy w' o) (Z' : Nat → Prop) (hz : ∀ b, Z' b → o = some b ∨ w.heap.size ≤ b) : Fr w w' (fun b => o = some b) Z' :=
  ⟨h.os, h.tape, h.output, h.size, fun b hb ho => h.block b hb (fun e => ho e.symm), hz⟩
/-- One more was put. -/
theorem KM.addP {w' : World} {v' : Value} {x : Ep} (h : KM w wr r gp gk s g q vp vg R Rw Cw g1 c1 d1 n1 b1 O A PX PG) (ha : AllAny A) (hA : Appended5 w.heap.size 89 wr w' vp v' (PX.length + 1) (PX.flatMap Ep.cells ++ x.cells)) :
    ∃ D, KM w w' r gp gk s g q v' vg (R.withCl D) Rw Cw g1 c1 d1 n1 b1 O A (PX ++ [x]) PG ∧ Fr wr w' (allB O gp gk q vp vg) (allB O gp gk q v' vg) := by
  have hg := hA.grown
  have f : Fr wr w' (fun b => vp.ownBlock = some b) (fun b => v'.ownBlock = some b) := Fr.ofGrown hg _ (fun b hb => hA.new b hb)
  have hrow : w'.ownsRow w.heap.size 89 5 v' (PX ++ [x]).length ((PX ++ [x]).flatMap Ep.cells) := by have := hA.row; simpa using this
  have hn : ∀ b, mutB O q v' vg b → mutB O q vp vg b ∨ wr.heap.size ≤ b := fun b hb => by
    rcases hb with e | e | e | e
    · exact .inl (.inl e)
    · exact .inl (.inr (.inl e))
    · rcases hA.new b e with z | z
      · exact .inl (.inr (.inr (.inl z)))
      · exact .inr z
    · exact .inl (.inr (.inr (.inr e)))
  have hlt : ∀ b, mutB O q v' vg b → b < w'.heap.size := fun b hb => by
    rcases hb with e | e | e | e
    · exact Nat.lt_of_lt_of_le (h.mlt (.inl e)).2 f.size
    · exact Nat.lt_of_lt_of_le (h.mlt (.inr (.inl e))).2 f.size
    · exact (hrow.lt b e).2
    · exact Nat.lt_of_lt_of_le (h.mlt (.inr (.inr (.inr e)))).2 f.size
  obtain ⟨o1, o2, o3, o4, o5, o6⟩ := h.other ha f (fun b hb => .inr (.inl hb)) (fun b hb => (h.dj.2.1 b hb).1) hn hlt
  refine ⟨_, ⟨o1, h.inv.withCl _, fun b hb => hb, h.bel.trans o2, h.lo, o4, o3, ⟨h.dj.1, fun b hb => ?_, fun b hb => ?_⟩, (f.block q (lt_blk h.box) (fun e => (h.dj.2.1 q e).2 rfl)).trans h.box, o5, hrow, row_atJ h.rowg (fun b hb => f.block b (h.rowg.lt b hb).2 (h.dj.2.2 b hb).2.2)⟩, o6⟩
  · rcases hA.new b hb with z | z
    · exact h.dj.2.1 b z
    · exact ⟨fun e => by have := (h.stm.rng b e).2; omega, fun e => by have := lt_blk h.box; omega⟩
  · refine ⟨(h.dj.2.2 b hb).1, (h.dj.2.2 b hb).2.1, fun e => ?_⟩
    rcases hA.new b e with z | z
    · exact (h.dj.2.2 b hb).2.2 z
    · have := (h.rowg.lt b hb).2; omega
theorem KM.addG {w' : World} {v' : Value} {x : ByteArray} {e9 : TypeId} (h : KM w wr r gp gk s g q vp vg R Rw Cw g1 c1 d1 n1 b1 O A PX PG) (ha : AllAny A) (he : e9 = 9) (hA : Appended w.heap.size e9 wr w' vg v' (PG.length + 1) (PG.map Value.string ++ [.string x])) :
    ∃ D, KM w w' r gp gk s g q vp v' (R.withCl D) Rw Cw g1 c1 d1 n1 b1 O A PX (PG ++ [x]) ∧ Fr wr w' (allB O gp gk q vp vg) (allB O gp gk q vp v') := by
  subst he
  have hg := hA.grown
  have f : Fr wr w' (fun b => vg.ownBlock = some b) (fun b => v'.ownBlock = some b) := Fr.ofGrown hg _ (fun b hb => hA.new b hb)
  have hrow : w'.ownsRow w.heap.size 9 1 v' (PG ++ [x]).length ((PG ++ [x]).map Value.string) := by have := hA.row; simpa using this
  have hn : ∀ b, mutB O q vp v' b → mutB O q vp vg b ∨ wr.heap.size ≤ b := fun b hb => by
    rcases hb with e | e | e | e
    · exact .inl (.inl e)
    · exact .inl (.inr (.inl e))
    · exact .inl (.inr (.inr (.inl e)))
    · rcases hA.new b e with z | z
      · exact .inl (.inr (.inr (.inr z)))
      · exact .inr z
  have hlt : ∀ b, mutB O q vp v' b → b < w'.heap.size := fun b hb => by
    rcases hb with e | e | e | e
    · exact Nat.lt_of_lt_of_le (h.mlt (.inl e)).2 f.size
    · exact Nat.lt_of_lt_of_le (h.mlt (.inr (.inl e))).2 f.size
    · exact Nat.lt_of_lt_of_le (h.mlt (.inr (.inr (.inl e)))).2 f.size
    · exact (hrow.lt b e).2
  obtain ⟨o1, o2, o3, o4, o5, o6⟩ := h.other ha f (fun b hb => .inr (.inr hb)) (fun b hb => (h.dj.2.2 b hb).1) hn hlt
  refine ⟨_, ⟨o1, h.inv.withCl _, fun b hb => hb, h.bel.trans o2, h.lo, o4, o3, ⟨h.dj.1, h.dj.2.1, fun b hb => ?_⟩, (f.block q (lt_blk h.box) (fun e => (h.dj.2.2 q e).2.1 rfl)).trans h.box, o5, row_atJ h.rowp (fun b hb => f.block b (h.rowp.lt b hb).2 (fun e => (h.dj.2.2 b e).2.2 hb)), hrow⟩, o6⟩
  rcases hA.new b hb with z | z
  · exact h.dj.2.2 b z
  · exact ⟨fun e => by have := (h.stm.rng b e).2; omega, fun e => by have := lt_blk h.box; omega, fun e => by have := (h.rowp.lt b e).2; omega⟩
/-- The new circle takes the place of the elder one. -/
theorem KM.setQ {R2 : Rg} {C2 : List Int} {g2 c2 d2 n2 : Nat} {b2 : Option Addr} (h : KM w wr r gp gk s g q vp vg R Rw Cw g1 c1 d1 n1 b1 O A PX PG) (ha : AllAny A) (h2 : CAo wr R2 C2 g2 c2 d2 n2 b2 (allB O gp gk q vp vg)) :
    ∃ D, KM w ((wr.setCell ⟨q, 0, none⟩ (.slice (some ⟨g2, 0, none⟩) n2 c2)).setCell ⟨q, 1, none⟩ (.slice b2 n2 d2)) r gp gk s g q vp vg (R.withCl D) R2 C2 g2 c2 d2 n2 b2 O A PX PG ∧ Fr wr ((wr.setCell ⟨q, 0, none⟩ (.slice (some ⟨g2, 0, none⟩) n2 c2)).setCell ⟨q, 1, none⟩ (.slice b2 n2 d2)) (allB O gp gk q vp vg) (allB O gp gk q vp vg) := by
  obtain ⟨w', hw⟩ : ∃ w', w' = (wr.setCell ⟨q, 0, none⟩ (.slice (some ⟨g2, 0, none⟩) n2 c2)).setCell ⟨q, 1, none⟩ (.slice b2 n2 d2) := ⟨_, rfl⟩
  rw [← hw]
  have hb : w'.heap[q]? = some (.cells #[.slice (some ⟨g2, 0, none⟩) n2 c2, .slice b2 n2 d2] 50 (0, 0)) := by
    have z0 : (wr.setCell ⟨q, 0, none⟩ (.slice (some ⟨g2, 0, none⟩) n2 c2)).heap[q]? = some (.cells #[.slice (some ⟨g2, 0, none⟩) n2 c2, .slice b1 n1 d1] 50 (0, 0)) := by simpa using heap_setCell_same wr q 0 _ _ (.slice (some ⟨g2, 0, none⟩) n2 c2) h.box
    rw [hw]
    simpa using heap_setCell_same _ q 1 _ _ (.slice b2 n2 d2) z0
  have f : Fr wr w' (fun b => b = q) (fun b => b = q) := by
    rw [hw]
    exact ⟨rfl, rfl, rfl, by simp [World.setCell], fun b _ hq => (setCell_heap hq _).trans (setCell_heap hq _), fun b hb => .inl hb⟩
  obtain ⟨o1, o2, o3, o4, _, o6⟩ := h.other (vp' := vp) (vg' := vg) ha f (fun b hb => .inl hb) (fun b hb => by rw [hb]; exact h.dj.1) (fun b hb => .inl hb) (fun b hb => Nat.lt_of_lt_of_le (h.mlt hb).2 f.size)
  exact ⟨_, ⟨o1, h.inv.withCl _, fun b hb => hb, h.bel.trans o2, h.lo, o4, o3, h.dj, hb, h2.fr o6, row_atJ h.rowp (fun b hb => f.block b (h.rowp.lt b hb).2 (h.dj.2.1 b hb).2), row_atJ h.rowg (fun b hb => f.block b (h.rowg.lt b hb).2 (h.dj.2.2 b hb).2.1)⟩, o6⟩
end
end Go.Proofs.YtmajlldfiiokoaaGreatDoor

/- The calls of a kept run. -/
namespace Go.Proofs.YtmajlldfiiokoaaGreatDoor
open Go.ChangeShapes Go.WideShapes Go.ChangeAt Go.RowKit Go.Deep
set_option linter.unusedVariables false

theorem Kpt.fail1 {Rw R : Rg} {Cw G : List Int} {A : Int → List Core} {P : List (ByteArray × Int)} (h : Kpt Rw Cw R G A P) {n : Int} (q : R.failC n = 0) : Kpt Rw Cw (R.fail n) (n :: G) A P ∧ (R.fail n).lives n = false := by
  obtain ⟨t1, t2⟩ := h.trk.fail q
  refine ⟨⟨t1, h.ok, fun p hp x hx hl => h.has p hp x hx (t2 x hl).1⟩, ?_⟩
  cases hl : (R.fail n).lives n with
  | false => rfl
  | true => exact absurd rfl (t2 n hl).2
theorem Kpt.gone {Rw R : Rg} {Cw G : List Int} {A : Int → List Core} {P : List (ByteArray × Int)} (h : Kpt Rw Cw R G A P) {n : Int} (q : R.lives n = false) : Kpt Rw Cw R G (upd A n []) P := by
  refine ⟨h.trk, ⟨fun k => ?_, fun k z hz => ?_, fun k z hz => ?_⟩, fun p hp x hx hl => ?_⟩
  · by_cases e : k = n
    · simp only [upd, if_pos e]; exact List.Pairwise.nil
    · simp only [upd, if_neg e]; exact h.ok.asc k
  · by_cases e : k = n
    · simp only [upd, if_pos e] at hz; cases hz
    · simp only [upd, if_neg e] at hz; exact h.ok.keys k z hz
  · by_cases e : k = n
    · simp only [upd, if_pos e] at hz; cases hz
    · simp only [upd, if_neg e] at hz; exact h.ok.any k z hz
  · have hne : x ≠ n := fun e => by rw [e, q] at hl; cases hl
    obtain ⟨z, hz, he⟩ := h.has p hp x hx hl
    exact ⟨z, by simp only [upd, if_neg hne]; exact hz, he⟩
theorem Kpt.withCl {Rw R : Rg} {Cw G : List Int} {A : Int → List Core} {P : List (ByteArray × Int)} (h : Kpt Rw Cw R G A P) (D : Nat → Prop) : Kpt Rw Cw (R.withCl D) G A P := ⟨⟨h.trk.pl, h.trk.out⟩, h.ok, h.has⟩
/-- All that holds between two calls; M: what is written. -/
def KEm (w wr : World) (r gp gk s g q : Nat) (vp vg : Value) (n went : Nat) (M : Nat → Prop) : Prop :=
  ∃ R Rw Cw g1 c1 d1 n1 b1 O G A PX, KM w wr r gp gk s g q vp vg R Rw Cw g1 c1 d1 n1 b1 O A PX (PX.map Ep.gr) ∧ Kpt Rw Cw R G A (PX.map Ep.key) ∧ PX.length = n ∧ n ≤ 21 ∧ G.length = went ∧ (∀ x ∈ PX, x.gr.size ≤ 30) ∧ M = allB O gp gk q vp vg
/-- Likewise, and a member has just gone. -/
def KEd (w wr : World) (r gp gk s g q : Nat) (vp vg : Value) (n went : Nat) (M : Nat → Prop) (d : Int) : Prop :=
  ∃ R Rw Cw g1 c1 d1 n1 b1 O G A PX, KM w wr r gp gk s g q vp vg R Rw Cw g1 c1 d1 n1 b1 O A PX (PX.map Ep.gr) ∧ Kpt Rw Cw R G A (PX.map Ep.key) ∧ PX.length = n ∧ n ≤ 21 ∧ G.length = went ∧ (∀ x ∈ PX, x.gr.size ≤ 30) ∧ M = allB O gp gk q vp vg ∧ R.lives d = false
section
variable {w wr : World} {r gp gk s g q n went : Nat} {vp vg : Value} {M : Nat → Prop}
theorem KEm.below {w' : World} (h : KEm w wr r gp gk s g q vp vg n went M) (hb : Below wr.heap.size wr w') : KEm w w' r gp gk s g q vp vg n went M := by
  obtain ⟨R, Rw, Cw, g1, c1, d1, n1, b1, O, G, A, PX, h1, h2⟩ := h
  exact ⟨R, Rw, Cw, g1, c1, d1, n1, b1, O, G, A, PX, h1.below hb, h2⟩
theorem KEm.bel (h : KEm w wr r gp gk s g q vp vg n went M) : Below w.heap.size w wr := by
  obtain ⟨R, Rw, Cw, g1, c1, d1, n1, b1, O, G, A, PX, h1, h2⟩ := h
  exact h1.bel
theorem KEm.lt (h : KEm w wr r gp gk s g q vp vg n went M) {b : Nat} (hb : M b) : b < wr.heap.size := by
  obtain ⟨R, Rw, Cw, g1, c1, d1, n1, b1, O, G, A, PX, h1, _, _, _, _, _, rfl⟩ := h
  exact (h1.alt hb).2
theorem run_join (k id via : Int) (hid : u64 id) (hv : i64 via) (h : KEm w wr r gp gk s g q vp vg n went M) :
    Calls Tryz.prog 32 #[.pointer (some ⟨r, 0, none⟩), .int .i64 k, .int .u64 id, .int .i64 via] wr fun e w' => (∃ ev, e = .returned ev) ∧ KEm w w' r gp gk s g q vp vg n went M ∧ Fr wr w' M M := by
  obtain ⟨R, Rw, Cw, g1, c1, d1, n1, b1, O, G, A, PX, h1, h2, h3, h4, h5, h6, rfl⟩ := h
  refine (join_r r gp gk R k id via wr h1.ring hid hv).mono ?_
  rintro e w' ⟨rfl, hr, hk⟩
  obtain ⟨m1, m2⟩ := h1.turn h2.ok.any hr (h1.inv.join k id via hid) hk (cl_join R k id via)
  exact ⟨⟨_, rfl⟩, ⟨_, Rw, Cw, g1, c1, d1, n1, b1, O, G, A, PX, m1, h2.join (by have := h1.cir.at'.len; have := h1.cir.at'.n4; omega) k id via, h3, h4, h5, h6, rfl⟩, m2⟩
theorem run_round (h : KEm w wr r gp gk s g q vp vg n went M) :
    Calls Tryz.prog 12 #[.pointer (some ⟨r, 0, none⟩)] wr fun e w' => e = .returned (.tuple #[]) ∧ KEm w w' r gp gk s g q vp vg n went M ∧ Fr wr w' M M := by
  obtain ⟨R, Rw, Cw, g1, c1, d1, n1, b1, O, G, A, PX, h1, h2, h3, h4, h5, h6, rfl⟩ := h
  refine (round_r r gp gk R wr h1.ring).mono ?_
  rintro e w' ⟨rfl, hr, hk⟩
  obtain ⟨m1, m2⟩ := h1.turn h2.ok.any hr h1.inv.round hk (cl_round R)
  exact ⟨rfl, ⟨_, Rw, Cw, g1, c1, d1, n1, b1, O, G, A, PX, m1, h2.round h1.inv, h3, h4, h5, h6, rfl⟩, m2⟩
theorem run_fail (k : Int) (h : KEm w wr r gp gk s g q vp vg n went M) :
    Calls Tryz.prog 37 #[.pointer (some ⟨r, 0, none⟩), .int .i64 k] wr fun e w' => ((∃ c, e = .returned (errV c) ∧ c ≠ 0 ∧ KEm w w' r gp gk s g q vp vg n went M) ∨ (e = .returned (errV 0) ∧ KEd w w' r gp gk s g q vp vg n (went + 1) M k)) ∧ Fr wr w' M M := by
  obtain ⟨R, Rw, Cw, g1, c1, d1, n1, b1, O, G, A, PX, h1, h2, h3, h4, h5, h6, rfl⟩ := h
  refine (fail_r r gp gk R k wr h1.ring).mono ?_
  rintro e w' ⟨rfl, hr, hk⟩
  obtain ⟨m1, m2⟩ := h1.turn h2.ok.any hr (h1.inv.fail k) hk (cl_fail R k)
  refine ⟨?_, m2⟩
  by_cases hc : R.failC k = 0
  · obtain ⟨k1, k2⟩ := h2.fail1 hc
    exact .inr ⟨by rw [hc], _, Rw, Cw, g1, c1, d1, n1, b1, O, k :: G, A, PX, m1, k1, h3, h4, by simp [h5], h6, rfl, k2⟩
  · have e : R.fail k = R := by unfold Rg.fail; rw [if_neg hc]
    rw [e] at m1
    exact .inl ⟨_, rfl, hc, R, Rw, Cw, g1, c1, d1, n1, b1, O, G, A, PX, m1, h2, h3, h4, h5, h6, rfl⟩
theorem run_gone (k : Int) (h : KEd w wr r gp gk s g q vp vg n went M k) :
    Calls Tryz.prog 38 #[.pointer (some ⟨s, 0, none⟩), .int .i64 k] wr fun e w' => e = .returned (.tuple #[]) ∧ KEm w w' r gp gk s g q vp vg n went M ∧ Fr wr w' M M := by
  obtain ⟨R, Rw, Cw, g1, c1, d1, n1, b1, O, G, A, PX, h1, h2, h3, h4, h5, h6, rfl, h7⟩ := h
  refine (stm_gone k wr h1.stm).mono ?_
  rintro e w' ⟨rfl, hs, hf⟩
  obtain ⟨D, m1, m2⟩ := h1.store hs hf
  exact ⟨rfl, ⟨_, Rw, Cw, g1, c1, d1, n1, b1, O, G, _, PX, m1, (h2.gone h7).withCl D, h3, h4, h5, h6, rfl⟩, m2⟩
end

set_option maxRecDepth 100000 in
set_option maxHeartbeats 4000000 in
/-- A member has a wish of a group and a child. -/
theorem has21_any {B : Nat} {w0 : World} {s g : Nat} {O : Nat → Prop} {A : Int → List Core} (n : Int) (gr : ByteArray) (c : Int) (fa : Option Addr) (fl fc : Nat) (any : Bool) (till : Int) (w : World) (h : Stm B w0 w s g O A) (hq : ∃ z ∈ A n, z.key = (gr, c) ∧ z.any = true) (hroom : (A n).length < 400) :
    Calls Tryz.prog 43 #[.pointer (some ⟨s, 0, none⟩), .int .i64 n, .agg #[.string gr, .int .i64 c, .slice fa fl fc, .bool any, .int .i64 till]] w fun e w' => e = .returned (.bool true) ∧ Below w.heap.size w w' := by
  obtain ⟨qx, hqx⟩ : ∃ q, q = w.heap.size := ⟨_, rfl⟩
  obtain ⟨W, hW⟩ : ∃ W, W = w.alloc (.cells #[.string gr, .int .i64 c, .slice fa fl fc, .bool any, .int .i64 till] 89) := ⟨_, rfl⟩
  have bW : Below w.heap.size w W := by rw [hW]; exact below_one _ _
  have hb : W.heap[qx]? = some (.cells #[.string gr, .int .i64 c, .slice fa fl fc, .bool any, .int .i64 till] 89 (0, 0)) := by rw [hW, hqx]; exact heap_alloc_new _ _
  have y0 : W.cell? ⟨qx, 0, none⟩ = some (.string gr) := by simp [World.cell?, hb]
  have yl := lt_blk hb
  have HWI : Hid _ := stm_wishes n gr W (h.below bW)
  have HW : Hid (Below w.heap.size w W ∧ W.heap[qx]? = some (.cells #[.string gr, .int .i64 c, .slice fa fl fc, .bool any, .int .i64 till] 89 (0, 0)) ∧ (∃ z ∈ A n, z.key = (gr, c) ∧ z.any = true) ∧ (A n).length < 400) := ⟨bW, hb, hq, hroom⟩
  clear h bW hb hq hroom
  go_enter Tryz.func43, Tryz.ntmps43
  go_upto_region 1 with fail
  rw [← hW]
  try rw [← hqx]
  clear hW hqx
  go_wp2_with fail
  refine Calls.mono HWI.out ?_
  clear HWI
  rintro e w1 ⟨v1, Y, rfl, hE, hY⟩
  obtain ⟨a, cc, hv⟩ := hE.er.shape
  subst hv
  obtain ⟨m, hm⟩ : ∃ m, m = Y.length := ⟨_, rfl⟩
  rw [← hm] at hE ⊢
  have hml : m ≤ 400 := by
    have h1 := congrArg List.length hY
    rw [List.length_map, ← hm] at h1
    have h2 := List.length_filter_le (ofC gr) (A n)
    have h3 := HW.out.2.2.2
    omega
  have hex : ∃ i0, i0 < m ∧ (Y.getD i0 ep0).ch = c ∧ (Y.getD i0 ep0).any = true := by
    obtain ⟨z, hz, hk, hany⟩ := HW.out.2.2.1
    have hg : z.gr = gr := congrArg Prod.fst hk
    have hmem : z ∈ Y.map Ep.core := by rw [hY]; exact List.mem_filter.2 ⟨hz, (ofC_iff gr z).2 hg⟩
    obtain ⟨y, hy, rfl⟩ := List.mem_map.1 hmem
    obtain ⟨i0, hi0, rfl⟩ := List.getElem_of_mem hy
    refine ⟨i0, by omega, ?_, ?_⟩
    · rw [List.getD_eq_getElem?_getD, List.getElem?_eq_getElem hi0]; exact congrArg Prod.snd hk
    · rw [List.getD_eq_getElem?_getD, List.getElem?_eq_getElem hi0]; exact hany
  obtain ⟨i0, hi0, hc0, ha0⟩ := hex
  have hb1 : w1.heap[qx]? = some (.cells #[.string gr, .int .i64 c, .slice fa fl fc, .bool any, .int .i64 till] 89 (0, 0)) := (hE.bel.block _ yl).trans HW.out.2.1
  have HE : Hid (ERow W w1 (.slice a m cc) Y ∧ m = Y.length ∧ (Y.getD i0 ep0).ch = c ∧ (Y.getD i0 ep0).any = true ∧ Below w.heap.size w w1 ∧ w1.heap[qx]? = some (.cells #[.string gr, .int .i64 c, .slice fa fl fc, .bool any, .int .i64 till] 89 (0, 0))) := ⟨hE.er, hm, hc0, ha0, HW.out.1.trans (hE.bel.mono HW.out.1.size), hb1⟩
  clear hE hY hm hc0 ha0 hb1 y0 yl HW
  go_wp2
  go_loopg [15] m (fun kx st wr => ∃ i : Nat, st = .int .i64 i ∧ i ≤ i0 ∧ kx = m - i ∧ Hid (Below w1.heap.size w1 wr))
  case atStart => exact ⟨0, rfl, Nat.zero_le _, rfl, Below.refl _ _⟩
  case round =>
    obtain ⟨i, rfl, hi, rfl, HB⟩ := hrel
    have hlt : i < m := by omega
    have hltI : (i : Int) < (m : Int) := by omega
    obtain ⟨b, o, ha, hbl, e0, e1, e2, e3, e4⟩ := ERow.read (w' := wr) HE.out.1 HE.out.2.1 (by omega) (fun b h1 h2 h3 => HB.out.block b h2) hlt
    subst ha
    have hbl2 : b < wr.heap.size := Nat.lt_of_lt_of_le hbl HB.out.size
    have hbx : wr.heap[qx]? = some (.cells #[.string gr, .int .i64 c, .slice fa fl fc, .bool any, .int .i64 till] 89 (0, 0)) := (HB.out.block _ (lt_blk HE.out.2.2.2.2.2)).trans HE.out.2.2.2.2.2
    have z1 : wr.cell? ⟨qx, 1, none⟩ = some (.int .i64 c) := by simp [World.cell?, hbx]
    have zl := lt_blk hbx
    obtain ⟨x, hx⟩ : ∃ x, x = Y.getD i ep0 := ⟨_, rfl⟩
    rw [← hx] at e0 e1 e2 e3 e4
    have HX : Hid (x = Y.getD i ep0) := hx
    obtain ⟨xg, xc, xa, xl, xp, xn, xt, xf⟩ := x
    simp only at e0 e1 e2 e3 e4
    obtain ⟨W5, hW5⟩ : ∃ W5, W5 = wr.alloc (.cells #[.string xg, .int .i64 xc, .slice xa xl xp, .bool xn, .int .i64 xt] 89) := ⟨_, rfl⟩
    obtain ⟨z5, hz5⟩ : ∃ z5, z5 = wr.heap.size := ⟨_, rfl⟩
    have b5 : Below wr.heap.size wr W5 := by rw [hW5]; exact below_one _ _
    have hb5 : W5.heap[z5]? = some (.cells #[.string xg, .int .i64 xc, .slice xa xl xp, .bool xn, .int .i64 xt] 89 (0, 0)) := by rw [hW5, hz5]; exact heap_alloc_new _ _
    have d1 : W5.cell? ⟨z5, 1, none⟩ = some (.int .i64 xc) := by simp [World.cell?, hb5]
    have d3 : W5.cell? ⟨z5, 3, none⟩ = some (.bool xn) := by simp [World.cell?, hb5]
    have dl := lt_blk hb5
    have t1 := cell_grown z1 b5
    have tl := cell_block t1
    have H5 : Hid (Below w1.heap.size w1 W5) := HB.out.trans (b5.mono HB.out.size)
    clear hx hb5 b5 hbx z1 zl
    go_upto_region 4 with fail
    rw [← hW5]
    try rw [← hz5]
    clear hW5 hz5 e0 e1 e2 e3 e4 hbl hbl2
    by_cases hyes : xc = c ∧ xn = true
    · obtain ⟨rfl, rfl⟩ := hyes
      have HF : Hid (Below w.heap.size w W5) := HE.out.2.2.2.2.1.trans (H5.out.mono HE.out.2.2.2.2.1.size)
      go_wp2
      go_ret
      exact ⟨rfl, HF.out⟩
    · have hne : i ≠ i0 := fun e => hyes (by
        have h1 := HE.out.2.2.1
        have h2 := HE.out.2.2.2.1
        rw [← e, ← HX.out] at h1 h2
        exact ⟨h1, h2⟩)
      by_cases hc : xc = c
      · have hxn : xn = false := by cases xn with | false => rfl | true => exact absurd ⟨hc, rfl⟩ hyes
        subst hc hxn
        clear hyes
        go_wp2
        go_roundg (m - (i + 1))
        case measure => omega
        case rel => exact ⟨i + 1, by go_num, by omega, rfl, H5⟩
      · have hcb : (xc == c) = false := by simpa using hc
        clear hyes hc
        go_wp2
        go_roundg (m - (i + 1))
        case measure => omega
        case rel => exact ⟨i + 1, by go_num, by omega, rfl, H5⟩
end Go.Proofs.YtmajlldfiiokoaaGreatDoor

/- The calls of a kept run: puts and plans. -/
namespace Go.Proofs.YtmajlldfiiokoaaGreatDoor
open Go.ChangeShapes Go.WideShapes Go.ChangeAt Go.RowKit Go.Deep
set_option linter.unusedVariables false

theorem CAo.weak {w : World} {R : Rg} {C : List Int} {g c d n : Nat} {b : Option Addr} {O U : Nat → Prop} (h : CAo w R C g c d n b U) (hs : ∀ b, O b → U b) : CAo w R C g c d n b O := ⟨h.at', fun e => h.g (hs _ e), fun x hx e => h.b x hx (hs _ e)⟩
theorem strIn_rowK {w : World} {B n c : Nat} {a : Option Addr} {L : List ByteArray} (h : w.ownsRow B 9 1 (.slice a n c) n (L.map Value.string)) : StrIn w a n L := by
  have hl : L.length = n := by have := h.1; simpa using this
  refine ⟨hl, ?_⟩
  rcases h.2 with ⟨_, h0⟩ | ⟨g, cap, cur, hv, _, hg, _⟩
  · exact .inl h0
  · have hc := h.cells (g := g) (by rw [hv]; rfl)
    simp only [Value.slice.injEq] at hv
    refine .inr ⟨g, 0, hv.1, lt_blk hg, fun j hj => ?_⟩
    have e := hc j (.string (L.getD j ByteArray.empty)) (by
      rw [List.getElem?_map, List.getElem?_eq_getElem (show j < L.length by omega), List.getD_eq_getElem?_getD, List.getElem?_eq_getElem (show j < L.length by omega)]; rfl)
    rw [Addr.add_lit] at e
    simpa using e
theorem catM_len (F : Nat → List Mv) : ∀ n, (∀ j, j < n → (F j).length ≤ 3) → (catM F n).length ≤ 3 * n
  | 0, _ => by simp [catM]
  | n + 1, h => by
    have ih := catM_len F n (fun j hj => h j (by omega))
    have hn := h n (by omega)
    unfold catM at ih ⊢
    rw [List.range_succ, List.flatMap_append, List.length_append]
    simp only [List.flatMap_cons, List.flatMap_nil, List.append_nil]
    omega
section
variable {w wr : World} {r gp gk s g q : Nat} {vp vg : Value} {R Rw : Rg} {Cw : List Int} {g1 c1 d1 n1 : Nat} {b1 : Option Addr} {O : Nat → Prop} {A : Int → List Core} {PX : List Ep} {PG : List ByteArray} {G : List Int} {P : List (ByteArray × Int)}
theorem km_of (h : KM w wr r gp gk s g q vp vg R Rw Cw g1 c1 d1 n1 b1 O A PX PG) :
    Calls Tryz.prog 18 #[.pointer (some ⟨r, 0, none⟩)] wr fun e w' => ∃ C g2 b2 c2 d2 n2, e = .returned (.agg #[.slice (some ⟨g2, 0, none⟩) n2 c2, .slice b2 n2 d2]) ∧ CAo w' R C g2 c2 d2 n2 b2 (allB O gp gk q vp vg) ∧ Below wr.heap.size wr w' := by
  refine (of_new r gp gk R wr h.ring h.inv).mono ?_
  rintro e w' ⟨C, g2, b2, c2, d2, rfl, hC, hm, hc1, hc2, hp, _, hb, hg, hx⟩
  exact ⟨C, g2, b2, c2, d2, _, rfl, ⟨⟨hC, h.inv, hm, hc1, hc2, hp, live_four h.inv, liveTo_len R 32⟩, fun e => by have := (h.alt e).2; omega, fun x hx' e => by have := (h.alt e).2; have := hx x hx'; omega⟩, hb⟩
theorem km_put (h : KM w wr r gp gk s g q vp vg R Rw Cw g1 c1 d1 n1 b1 O A PX PG) (h2 : Kpt Rw Cw R G A P) (hP : P.length ≤ 100) (gr : ByteArray) (c : Int) (fa : Option Addr) (fl fc : Nat) (till : Int) (fs : List ByteArray) (hs : gr.size ≤ 30) (hf : StrIn wr fa fl fs) (hfl : fl ≤ 20) (hfo : ∀ b, fa = some b → ¬ O b.block ∧ b.block < wr.heap.size) :
    Calls Tryz.prog 40 #[.pointer (some ⟨s, 0, none⟩), .agg #[.slice (some ⟨g1, 0, none⟩) n1 c1, .slice b1 n1 d1], .agg #[.string gr, .int .i64 c, .slice fa fl fc, .bool true, .int .i64 till]] wr fun e w' =>
      e = .returned .nilIface ∧ ∃ D O' A', KM w w' r gp gk s g q vp vg (R.withCl D) Rw Cw g1 c1 d1 n1 b1 O' A' PX PG ∧ Kpt Rw Cw (R.withCl D) G A' (P ++ [(gr, c)]) ∧ Fr wr w' (allB O gp gk q vp vg) (allB O' gp gk q vp vg) := by
  refine (stm_puts (Ks := P ++ [(gr, c)]) Rw Cw g1 c1 d1 n1 b1 gr c fa fl fc true till fs wr h.stm (h.cir.weak (fun b hb => .inl (.inl hb))) (by omega) hf (by omega) (fun b hb => (hfo b hb).1) (fun b hb => (hfo b hb).2) ⟨h.stm.asc, fun n z hz => by simp [h2.ok.keys n z hz], by simp; omega⟩ (by simp)).mono ?_
  rintro e w' ⟨rfl, O', hs', hf'⟩
  obtain ⟨D, m1, m2⟩ := h.store hs' hf'
  exact ⟨rfl, D, O', _, m1, (h2.put ⟨gr, c, true, till, fs⟩ rfl).withCl D, m2⟩
theorem km_plan (h : KM w wr r gp gk s g q vp vg R Rw Cw g1 c1 d1 n1 b1 O A PX PG) {R2 : Rg} {C2 : List Int} {g2 c2 d2 n2 : Nat} {b2 : Option Addr} (hc : CAt wr R2 C2 g2 c2 d2 n2 b2) (ga : Option Addr) (gn gc : Nat) (hv : vg = .slice ga gn gc) (hn : gn = PG.length) (hl : gn ≤ 100) (hsz : ∀ s ∈ PG, s.size ≤ 200) :
    Calls Tryz.prog 26 #[.agg #[.slice (some ⟨g1, 0, none⟩) n1 c1, .slice b1 n1 d1], .agg #[.slice (some ⟨g2, 0, none⟩) n2 c2, .slice b2 n2 d2], .slice ga gn gc] wr fun e w' =>
      (∃ v L, e = .returned v ∧ PlanIs Rw R2 Cw C2 PG L ∧ L.length ≤ 300 ∧ w'.ownsRow wr.heap.size 69 3 v L.length (L.flatMap encM)) ∧ Below wr.heap.size wr w' := by
  have hrow := h.rowg
  rw [hv, ← hn] at hrow
  refine (plan_g Rw R2 Cw C2 g1 c1 d1 n1 g2 c2 d2 n2 b1 b2 ga gn gc PG wr h.cir.at' hc (strIn_rowK hrow) (by omega) hsz).mono ?_
  rintro e w' ⟨⟨v, F, rfl, hF, hrow2⟩, hb⟩
  refine ⟨⟨v, _, rfl, plan_is h.cir.at'.len.symm hc.len.symm hF, ?_, hrow2⟩, hb⟩
  have h1 := catM_len F (onceS (sortS PG)).length (fun j hj => (hF j hj).len (by have := hc.len; have := hc.n4; omega) hc.len.symm)
  have h3 := onceS_len (sortS PG)
  rw [(sortS_perm PG).length_eq] at h3
  omega
theorem km_do (h : KM w wr r gp gk s g q vp vg R Rw Cw g1 c1 d1 n1 b1 O A PX PG) (h2 : Okay A P) (hP : P.length ≤ 100) {Bm : Nat} (la : Option Addr) (n lc : Nat) (L : List (ByteArray × Int × Int)) (hL : L.length = n) (hn : n ≤ 300) (hrow : wr.ownsRow Bm 69 3 (.slice la n lc) n (L.flatMap encM)) (hro : ∀ b, (Value.slice la n lc).ownBlock = some b → ¬ O b) :
    Calls Tryz.prog 41 #[.pointer (some ⟨s, 0, none⟩), .slice la n lc] wr fun e w' =>
      e = .returned .nilIface ∧ ∃ D O', KM w w' r gp gk s g q vp vg (R.withCl D) Rw Cw g1 c1 d1 n1 b1 O' (movesA A L) PX PG ∧ Fr wr w' (allB O gp gk q vp vg) (allB O' gp gk q vp vg) := by
  refine (stm_do (Ks := P) la n lc L wr h.stm hrow hL (by omega) hro ⟨h.stm.asc, h2.keys, by omega⟩).mono ?_
  rintro e w' ⟨rfl, O', hs', hf'⟩
  obtain ⟨D, m1, m2⟩ := h.store hs' hf'
  exact ⟨rfl, D, O', m1, m2⟩
theorem km_trim (h : KM w wr r gp gk s g q vp vg R Rw Cw g1 c1 d1 n1 b1 O A PX PG) (h2 : Okay A P) (hP : ∀ p ∈ P, p.1.size ≤ 200) {R2 : Rg} {C2 : List Int} {g2 c2 d2 n2 : Nat} {b2 : Option Addr} (hc : CAo wr R2 C2 g2 c2 d2 n2 b2 (allB O gp gk q vp vg)) :
    Calls Tryz.prog 42 #[.pointer (some ⟨s, 0, none⟩), .agg #[.slice (some ⟨g2, 0, none⟩) n2 c2, .slice b2 n2 d2]] wr fun e w' =>
      e = .returned (.tuple #[]) ∧ ∃ D O', KM w w' r gp gk s g q vp vg (R.withCl D) Rw Cw g1 c1 d1 n1 b1 O' (trimA R2 C2 A) PX PG ∧ Fr wr w' (allB O gp gk q vp vg) (allB O' gp gk q vp vg) := by
  refine (stm_trim R2 C2 g2 c2 d2 n2 b2 wr h.stm (hc.weak (fun b hb => .inl (.inl hb))) (fun n z hz => hP _ (h2.keys n z hz))).mono ?_
  rintro e w' ⟨rfl, O', hs', hf'⟩
  obtain ⟨D, m1, m2⟩ := h.store hs' hf'
  exact ⟨rfl, D, O', m1, m2⟩
/-- It begins. -/
theorem KM.start {w3 : World} (h : RingAt w3 r gp gk R) (hi : Inv R) (hb0 : Below w.heap.size w w3) (hgp : w.heap.size ≤ gp) (hgk : w.heap.size ≤ gk) (hb : Below w3.heap.size w3 wr) (hs : Stm w.heap.size w wr s g O A) (hO : ∀ b, O b → w3.heap.size ≤ b)
    (hq : w3.heap.size ≤ q) (hqO : ¬ O q) (box : wr.heap[q]? = some (.cells #[.slice (some ⟨g1, 0, none⟩) n1 c1, .slice b1 n1 d1] 50 (0, 0))) (cir : CAo wr R Cw g1 c1 d1 n1 b1 (allB O gp gk q vp vg))
    {B1 B2 : Nat} (hB1 : q < B1) (hB2 : B1 < B2) (hOB : ∀ b, O b → b < B1) (rowp : wr.ownsRow B1 89 5 vp 0 []) (rowg : wr.ownsRow B2 9 1 vg 0 []) (hvp : ∀ b, vp.ownBlock = some b → b < B2) :
    ∃ D, KM w wr r gp gk s g q vp vg (R.withCl D) R Cw g1 c1 d1 n1 b1 O A [] [] := by
  have hw3 := hb0.size
  have hlo : ∀ b, mutB O q vp vg b → w3.heap.size ≤ b ∧ b < wr.heap.size := fun b hb' => by
    rcases hb' with e | e | e | e
    · exact ⟨hO b e, (hs.rng b e).2⟩
    · rw [e]; exact ⟨hq, lt_blk box⟩
    · have := rowp.lt b e; omega
    · have := rowg.lt b e; omega
  have hr := h.lt
  have hoff : ∀ b, b < w3.heap.size → ¬ mutB O q vp vg b := fun b hb' e => by have := (hlo b e).1; omega
  refine ⟨mutB O q vp vg, ⟨h.fr hi.lens (Fr.ofBelow hb (fun _ => False)) (fun b e => e.elim) (fun e => e) (fun e => e) (fun e => e) _ (fun b e => ⟨.inr (hlo b e).1, (hlo b e).2⟩), hi.withCl _, fun b e => e, hb0.trans (hb.mono hw3), ⟨hgp, hgk, by omega⟩, ⟨hoff r hr.1, hoff gp hr.2.1, hoff gk hr.2.2⟩, hs, ⟨hqO, fun b e => ⟨fun o => ?_, ?_⟩, fun b e => ⟨fun o => ?_, ?_, fun e2 => ?_⟩⟩, box, cir, own_mono rowp (by omega), own_lower rowg (by omega)⟩⟩
  · have := hOB b o; have := (rowp.lt b e).1; omega
  · have := (rowp.lt b e).1; omega
  · have := hOB b o; have := (rowg.lt b e).1; omega
  · have := (rowg.lt b e).1; omega
  · have := hvp b e2; have := (rowg.lt b e).1; omega
end
theorem of_k (r gp gk : Nat) (R : Rg) (w : World) (h : RingAt w r gp gk R) (hi : Inv R) :
    Calls Tryz.prog 18 #[.pointer (some ⟨r, 0, none⟩)] w fun e w' => ∃ C g b c d n, e = .returned (.agg #[.slice (some ⟨g, 0, none⟩) n c, .slice b n d]) ∧ CAt w' R C g c d n b ∧ Below w.heap.size w w' ∧ w.heap.size ≤ g ∧ ∀ x, b = some x → w.heap.size ≤ x.block := by
  refine (of_new r gp gk R w h hi).mono ?_
  rintro e w' ⟨C, g, b, c, d, rfl, hC, hm, hc1, hc2, hp, _, hb, h1, h2⟩
  exact ⟨C, g, b, c, d, _, rfl, ⟨hC, hi, hm, hc1, hc2, hp, live_four hi, liveTo_len R 32⟩, hb, h1, h2⟩
theorem empty_rowT (W : World) (T : TypeId) (k : Nat) : (W.alloc (.cells #[] T)).ownsRow W.heap.size T k (.slice (some ⟨W.heap.size, 0, none⟩) 0 0) 0 [] :=
  ⟨by simp, .inr ⟨W.heap.size, 0, #[], rfl, Nat.le_refl _, heap_alloc_new W _, Nat.le_refl _, by unfold maxLen; omega, by simp, by simp⟩⟩
theorem Kpt.start {R : Rg} {C : List Int} (hi : Inv R) (hc : Cir R C) : Kpt R C R [] (fun _ => []) [] :=
  ⟨Trk.start hi hc, ⟨fun n => List.Pairwise.nil, (fun n z hz => by cases hz), (fun n z hz => by cases hz)⟩, (fun q hq => by cases hq)⟩
theorem KEm.start {w W4 w7 W8 W9 W10 : World} {r gp gk s g g1 c1 d1 n1 : Nat} {b1 : Option Addr} {R : Rg} {C : List Int} {O : Nat → Prop} (h : RingAt W4 r gp gk R) (hi : Inv R) (hb0 : Below w.heap.size w W4) (hgp : w.heap.size ≤ gp) (hgk : w.heap.size ≤ gk) (hb : Below W4.heap.size W4 w7) (hs : Stm W4.heap.size W4 w7 s g O (fun _ => []))
    (hc : CAt w7 R C g1 c1 d1 n1 b1) {z : Nat} (hz : W4.heap.size ≤ z) (hO : ∀ b, O b → b < z) (hg1 : z ≤ g1) (hx1 : ∀ x, b1 = some x → z ≤ x.block)
    (hW8 : W8 = w7.alloc (.cells #[.slice (some ⟨g1, 0, none⟩) n1 c1, .slice b1 n1 d1] 50)) (hW9 : W9 = W8.alloc (.cells #[] 89)) (hW10 : W10 = W9.alloc (.cells #[] 9)) :
    ∃ M, KEm w W10 r gp gk s g w7.heap.size (.slice (some ⟨W8.heap.size, 0, none⟩) 0 0) (.slice (some ⟨W9.heap.size, 0, none⟩) 0 0) 0 0 M := by
  have k8 : W8.heap.size = w7.heap.size + 1 := by rw [hW8]; simp
  have k9 : W9.heap.size = W8.heap.size + 1 := by rw [hW9]; simp
  have b8 : Below w7.heap.size w7 W8 := by rw [hW8]; exact below_one _ _
  have b9 : Below W8.heap.size W8 W9 := by rw [hW9]; exact below_one _ _
  have b10 : Below W9.heap.size W9 W10 := by rw [hW10]; exact below_one _ _
  have b710 : Below w7.heap.size w7 W10 := b8.trans ((b9.trans (b10.mono b9.size)).mono b8.size)
  have hbox : W8.heap[w7.heap.size]? = some (.cells #[.slice (some ⟨g1, 0, none⟩) n1 c1, .slice b1 n1 d1] 50 (0, 0)) := by rw [hW8]; exact heap_alloc_new _ _
  have hlt7 := hb.size
  have hg7 : g1 < w7.heap.size := by
    rcases hc.mem.2.2 with e | ⟨b, o, ha, hlt, _⟩
    · have := hc.n4; omega
    · cases ha; exact hlt
  have hb7 : ∀ x, b1 = some x → x.block < w7.heap.size := fun x hx => by
    rcases hc.ids.2.2 with e | ⟨b, o, ha, hlt, _⟩
    · have := hc.n4; omega
    · rw [ha] at hx; cases hx; exact hlt
  have hr := h.lt
  have hfar : ∀ b, z ≤ b → b < w7.heap.size → ¬ allB O gp gk w7.heap.size (.slice (some ⟨W8.heap.size, 0, none⟩) 0 0) (.slice (some ⟨W9.heap.size, 0, none⟩) 0 0) b := fun b h1 h2 e => by
    rcases e with (e | e | e | e) | e | e
    · have := hO b e; omega
    · omega
    · simp [Value.ownBlock] at e; omega
    · simp [Value.ownBlock] at e; omega
    · omega
    · omega
  have row9 : W10.ownsRow W8.heap.size 89 5 (.slice (some ⟨W8.heap.size, 0, none⟩) 0 0) 0 [] := by
    have h9 : W9.ownsRow W8.heap.size 89 5 (.slice (some ⟨W8.heap.size, 0, none⟩) 0 0) 0 [] := by rw [hW9]; exact empty_rowT W8 _ 5
    exact row_atJ h9 (fun b hb' => b10.block b (h9.lt b hb').2)
  have row10 : W10.ownsRow W9.heap.size 9 1 (.slice (some ⟨W9.heap.size, 0, none⟩) 0 0) 0 [] := by rw [hW10]; exact empty_rowT W9 _ 1
  have hs10 := (hs.below b710).mono (Nat.le_trans hb0.size (Nat.le_refl _)) (hb0.trans ((hb.trans (b710.mono hlt7)).mono hb0.size))
  obtain ⟨D, hkm⟩ := KM.start (vp := .slice (some ⟨W8.heap.size, 0, none⟩) 0 0) (vg := .slice (some ⟨W9.heap.size, 0, none⟩) 0 0) h hi hb0 hgp hgk (hb.trans (b710.mono hlt7)) hs10 (fun b hb' => (hs.rng b hb').1) hlt7 (fun e => by have := hO _ e; omega) ((b9.trans (b10.mono b9.size)).block _ (by omega) |>.trans hbox)
    ⟨hc.below b710, hfar g1 hg1 hg7, fun x hx => hfar _ (hx1 x hx) (hb7 x hx)⟩ (B1 := W8.heap.size) (B2 := W9.heap.size) (by omega) (by omega) (fun b hb' => by have := (hs.rng b hb').2; omega) row9 row10 (fun b e => by simp [Value.ownBlock] at e; omega)
  exact ⟨_, _, _, _, _, _, _, _, _, _, _, _, _, hkm, (Kpt.start hi hc.cir).withCl D, rfl, by omega, rfl, (fun x hx => by cases hx), rfl⟩
theorem rowE_read {w : World} {B : Nat} {a : Option Addr} {n c : Nat} {L : List Ep} (h : w.ownsRow B 89 5 (.slice a n c) n (L.flatMap Ep.cells)) (hL : L.length = n) {i : Nat} (hi : i < n) :
    ∃ b, a = some ⟨b, 0, none⟩ ∧ b < w.heap.size ∧ w.cell? ⟨b, i * 5, none⟩ = some (.string (L.getD i ep0).gr) ∧ w.cell? ⟨b, i * 5 + 1, none⟩ = some (.int .i64 (L.getD i ep0).ch) ∧ w.cell? ⟨b, i * 5 + 2, none⟩ = some (.slice (L.getD i ep0).a (L.getD i ep0).ln (L.getD i ep0).cp) ∧ w.cell? ⟨b, i * 5 + 3, none⟩ = some (.bool (L.getD i ep0).any) ∧ w.cell? ⟨b, i * 5 + 4, none⟩ = some (.int .i64 (L.getD i ep0).till) := by
  rcases h.2 with ⟨_, h0⟩ | ⟨g, cap, cur, hv, _, hg, _⟩
  · omega
  · have hc := h.cells (g := g) (by rw [hv]; rfl)
    simp only [Value.slice.injEq] at hv
    have hx : ∀ j, j < 5 → (L.flatMap Ep.cells)[i * 5 + j]? = (L.getD i ep0).cells[j]? := fun j hj => flat_get Ep.cells 5 Ep.cells_len ep0 L i j (by omega) hj
    have e0 := hc (i * 5 + 0) (.string (L.getD i ep0).gr) (by rw [hx 0 (by omega)]; rfl)
    have e1 := hc (i * 5 + 1) (.int .i64 (L.getD i ep0).ch) (by rw [hx 1 (by omega)]; rfl)
    have e2 := hc (i * 5 + 2) (.slice (L.getD i ep0).a (L.getD i ep0).ln (L.getD i ep0).cp) (by rw [hx 2 (by omega)]; rfl)
    have e3 := hc (i * 5 + 3) (.bool (L.getD i ep0).any) (by rw [hx 3 (by omega)]; rfl)
    have e4 := hc (i * 5 + 4) (.int .i64 (L.getD i ep0).till) (by rw [hx 4 (by omega)]; rfl)
    rw [Addr.add_lit] at e0 e1 e2 e3 e4
    simp only [Nat.zero_add, Nat.add_zero] at e0 e1 e2 e3 e4
    exact ⟨g, hv.1, lt_blk hg, e0, e1, e2, e3, e4⟩
theorem has_of {A : Int → List Core} {n : Int} {gr : ByteArray} {c : Int} (h : HasQ A n (gr, c)) (ha : AllAny A) : ∃ z ∈ A n, z.key = (gr, c) ∧ z.any = true := by
  obtain ⟨z, hz, he⟩ := h
  exact ⟨z, hz, he, (ha n z hz).1⟩
end Go.Proofs.YtmajlldfiiokoaaGreatDoor
