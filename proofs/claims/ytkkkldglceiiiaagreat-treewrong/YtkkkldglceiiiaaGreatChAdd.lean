/- peer.Nearer of a chord ring; add: a member more. -/
import Derived.Test.YtkkkldglceiiiaaGreatChHead
import Derived.BigRegion
namespace Go.Proofs.YtkkkldglceiiiaaGreat
open Go.ChangeShapes Go.WideShapes Go.ChangeAt Go.RowKit Go.Deep
set_option linter.unusedVariables false

/-- What stays when the ring's two maps alone are written. -/
structure Kp (w w' : World) (gp gk : Nat) : Prop where
  os : w'.os = w.os
  tape : w'.tape = w.tape
  output : w'.output = w.output
  size : w.heap.size ≤ w'.heap.size
  block : ∀ b, b < w.heap.size → b ≠ gp → b ≠ gk → w'.heap[b]? = w.heap[b]?
theorem Kp.refl (w : World) (gp gk : Nat) : Kp w w gp gk := ⟨rfl, rfl, rfl, Nat.le_refl _, fun _ _ _ _ => rfl⟩
theorem Kp.trans {a b c : World} {gp gk : Nat} (h : Kp a b gp gk) (h' : Kp b c gp gk) : Kp a c gp gk :=
  ⟨h'.os.trans h.os, h'.tape.trans h.tape, h'.output.trans h.output, Nat.le_trans h.size h'.size, fun x hx h1 h2 => (h'.block x (Nat.lt_of_lt_of_le hx h.size) h1 h2).trans (h.block x hx h1 h2)⟩
theorem Kp.ofBelow {a b : World} {gp gk : Nat} (h : Below a.heap.size a b) : Kp a b gp gk := ⟨h.os, h.tape, h.output, h.size, fun x hx _ _ => h.block x hx⟩
theorem Kp.below {w w' : World} {gp gk B : Nat} (h : Kp w w' gp gk) (h1 : B ≤ gp) (h2 : B ≤ gk) (hB : B ≤ w.heap.size) : Below B w w' :=
  ⟨h.os, h.tape, h.output, h.size, fun x hx => h.block x (by omega) (by omega) (by omega)⟩
theorem Kp.cell {w w' : World} {gp gk : Nat} (h : Kp w w' gp gk) {a : Addr} {v : Value} (hc : w.cell? a = some v) (h1 : a.block ≠ gp) (h2 : a.block ≠ gk) : w'.cell? a = some v := by
  rw [← hc]
  exact World.cell?_of_block (h.block a.block (cell_block hc) h1 h2)
theorem Kp.drawn (w : World) (n gp gk : Nat) : Kp w { w with drawn := n } gp gk := ⟨rfl, rfl, rfl, Nat.le_refl _, fun _ _ _ _ => rfl⟩
theorem Kp.setP (w : World) (gp gk : Nat) (o : Obj) : Kp w (setMap w gp o) gp gk := ⟨rfl, rfl, rfl, by simp [setMap], fun b _ h1 _ => by simp [setMap, Array.getElem?_setIfInBounds_ne (Ne.symm h1)]⟩
theorem Kp.setK (w : World) (gp gk : Nat) (o : Obj) : Kp w (setMap w gk o) gp gk := ⟨rfl, rfl, rfl, by simp [setMap], fun b _ _ h1 => by simp [setMap, Array.getElem?_setIfInBounds_ne (Ne.symm h1)]⟩

theorem InRow.kp {w w' : World} {gp gk : Nat} {a : Option Addr} {len : Nat} {l : List Int} (h : InIn w a len l) (hk : Kp w w' gp gk) {mp mk : List (Int × Value)} (h1 : MpAt w gp mp) (h2 : MpAt w gk mk) : InIn w' a len l := by
  refine ⟨h.1, h.2.1, ?_⟩
  rcases h.2.2 with h0 | ⟨b, o, ha, hlt, hc⟩
  · exact .inl h0
  · by_cases h0 : len = 0
    · exact .inl h0
    have hx := (hc 0 (by omega)).2 0 (by omega)
    have n1 : b ≠ gp := fun e => by rw [e, h1.no_cell] at hx; simp [encI] at hx
    have n2 : b ≠ gk := fun e => by rw [e, h2.no_cell] at hx; simp [encI] at hx
    refine .inr ⟨b, o, ha, by have := hk.size; omega, fun i hi => ⟨(hc i hi).1, fun j hj => ?_⟩⟩
    rw [World.cell?_of_block (hk.block b hlt n1 n2)]
    exact (hc i hi).2 j hj
theorem PeIn.kp {w w' : World} {gp gk : Nat} {id pred : Int} {a : Option Addr} {len cap : Nat} {l : List Int} (h : PeIn w id pred a len cap l) (hk : Kp w w' gp gk) {mp mk : List (Int × Value)} (h1 : MpAt w gp mp) (h2 : MpAt w gk mk) : PeIn w' id pred a len cap l :=
  ⟨h.hid, h.hpred, InRow.kp h.row hk h1 h2, h.hcap, h.hmost, h.hnil⟩
theorem PeV.kp {w w' : World} {D : Nat → Prop} {gp gk : Nat} {p : Pe} {v : Value} (h : PeV w D p v) (hk : Kp w w' gp gk) {mp mk : List (Int × Value)} (h1 : MpAt w gp mp) (h2 : MpAt w gk mk) : PeV w' D p v := by
  obtain ⟨a, len, cap, e, h, hd⟩ := h
  exact ⟨a, len, cap, e, h.kp hk h1 h2, hd⟩
theorem KnOk.kp {w w' : World} {D : Nat → Prop} {gp gk : Nat} {p : Option Pe} {v : Option Value} (h : KnOk w D p v) (hk : Kp w w' gp gk) {mp mk : List (Int × Value)} (h1 : MpAt w gp mp) (h2 : MpAt w gk mk) : KnOk w' D p v := by
  cases p <;> cases v <;> first | exact trivial | exact h.elim | exact PeV.kp h hk h1 h2

def upd {α : Type} (f : Int → α) (n : Int) (x : α) : Int → α := fun k => if k = n then x else f k
/-- A place more. -/
def Rg.setP (R : Rg) (n id : Int) : Rg := ⟨upd R.pl n (some id), R.kn, R.cl⟩
/-- A member knows this. -/
def Rg.setK (R : Rg) (n : Int) (p : Pe) : Rg := ⟨R.pl, upd R.kn n (some p), R.cl⟩
/-- A member is gone. -/
def Rg.delK (R : Rg) (n : Int) : Rg := ⟨R.pl, upd R.kn n none, R.cl⟩

theorem box_ne {w : World} {r gp gk : Nat} {R : Rg} (h : RingAt w r gp gk R) : r ≠ gp ∧ r ≠ gk := by
  obtain ⟨mp, ⟨_, es, c, hp, _⟩, _⟩ := h.places
  obtain ⟨mk, ⟨_, es', c', hk, _⟩, _⟩ := h.known
  refine ⟨fun e => ?_, fun e => ?_⟩
  · have := h.box; rw [e, hp] at this; cases this
  · have := h.box; rw [e, hk] at this; cases this

/-- A store into the places. -/
theorem RingAt.putP {w : World} {r gp gk : Nat} {R : Rg} (h : RingAt w r gp gk R) (n id : Int) (hid : u64 id) :
    ∃ w', (Instr.mapUpdate 47 (.map (some gp)) (.int .i64 n) (.int .u64 id)).run Tryz.prog w = .ok () w' ∧ RingAt w' r gp gk (R.setP n id) ∧ Kp w w' gp gk := by
  obtain ⟨mp, hp, hp'⟩ := h.places
  obtain ⟨mk, hk, hk'⟩ := h.known
  obtain ⟨o, h1, h2⟩ := run_put (P := Tryz.prog) hp Tryz.underlying47 Tryz.underlying3 n (.int .u64 id)
  have kp := Kp.setP w gp gk o
  have bn := box_ne h
  refine ⟨_, h1, ⟨(kp.block r h.lt.1 bn.1 bn.2).trans h.box, h.ne, ⟨_, h2, fun k => ?_⟩, ⟨mk, hk.of_block (by simp [setMap, Array.getElem?_setIfInBounds_ne h.ne]), fun k => (hk' k).kp kp hp hk⟩, fun k x hx => ?_, fun b hb => Nat.lt_of_lt_of_le (h.old b hb) kp.size⟩, kp⟩
  · rw [look_put, hp']
    simp only [Rg.setP, upd]
    split <;> rfl
  · simp only [Rg.setP, upd] at hx
    split at hx
    · cases hx; exact hid
    · exact h.ids k x hx
/-- A store into what is known. -/
theorem RingAt.putK {w : World} {r gp gk : Nat} {R : Rg} (h : RingAt w r gp gk R) (n : Int) (p : Pe) {a : Option Addr} {len cap : Nat} (hv : PeIn w p.id p.pred a len cap p.succ) (hd : ∀ x, a = some x → ¬ R.cl x.block) :
    ∃ w', (Instr.mapUpdate 48 (.map (some gk)) (.int .i64 n) (.agg #[.int .u64 p.id, .int .i64 p.pred, .slice a len cap])).run Tryz.prog w = .ok () w' ∧ RingAt w' r gp gk (R.setK n p) ∧ Kp w w' gp gk := by
  obtain ⟨mp, hp, hp'⟩ := h.places
  obtain ⟨mk, hk, hk'⟩ := h.known
  obtain ⟨o, h1, h2⟩ := run_put (P := Tryz.prog) hk Tryz.underlying48 Tryz.underlying3 n (.agg #[.int .u64 p.id, .int .i64 p.pred, .slice a len cap])
  have kp := Kp.setK w gp gk o
  have bn := box_ne h
  refine ⟨_, h1, ⟨(kp.block r h.lt.1 bn.1 bn.2).trans h.box, h.ne, ⟨mp, hp.of_block (by simp [setMap, Array.getElem?_setIfInBounds_ne (Ne.symm h.ne)]), hp'⟩, ⟨_, h2, fun k => ?_⟩, h.ids, fun b hb => Nat.lt_of_lt_of_le (h.old b hb) kp.size⟩, kp⟩
  rw [look_put]
  simp only [Rg.setK, upd]
  split
  · exact ⟨a, len, cap, rfl, hv.kp kp hp hk, hd⟩
  · exact (hk' k).kp kp hp hk
/-- A delete out of what is known. -/
theorem RingAt.del {w : World} {r gp gk : Nat} {R : Rg} (h : RingAt w r gp gk R) (n : Int) (ty ty2 : TypeId) :
    ∃ w', (Builtin.delete_ #[48, ty2] ty #[.map (some gk), .int .i64 n]).run Tryz.prog w = .ok (.tuple #[]) w' ∧ RingAt w' r gp gk (R.delK n) ∧ Kp w w' gp gk := by
  obtain ⟨mp, hp, hp'⟩ := h.places
  obtain ⟨mk, hk, hk'⟩ := h.known
  obtain ⟨o, h1, h2⟩ := run_del (P := Tryz.prog) hk Tryz.underlying48 Tryz.underlying3 n ty ty2
  have kp := Kp.setK w gp gk o
  have bn := box_ne h
  refine ⟨_, h1, ⟨(kp.block r h.lt.1 bn.1 bn.2).trans h.box, h.ne, ⟨mp, hp.of_block (by simp [setMap, Array.getElem?_setIfInBounds_ne (Ne.symm h.ne)]), hp'⟩, ⟨_, h2, fun k => ?_⟩, h.ids, fun b hb => Nat.lt_of_lt_of_le (h.old b hb) kp.size⟩, kp⟩
  rw [look_del hk.1]
  simp only [Rg.delK, upd]
  split
  · exact trivial
  · exact (hk' k).kp kp hp hk
theorem RingAt.drew {w : World} {r gp gk : Nat} {R : Rg} (h : RingAt w r gp gk R) (n : Nat) : RingAt { w with drawn := n } r gp gk R := h.below (w' := { w with drawn := n }) ⟨rfl, rfl, rfl, Nat.le_refl _, fun _ _ => rfl⟩

set_option maxHeartbeats 2000000 in
theorem add_r (r gp gk : Nat) (R : Rg) (n : Int) (p : Pe) (a : Option Addr) (len cap : Nat) (w : World) (h : RingAt w r gp gk R) (hp : PeIn w p.id p.pred a len cap p.succ) (hd : ∀ x, a = some x → ¬ R.cl x.block) :
    Calls Tryz.prog 15 #[.pointer (some ⟨r, 0, none⟩), .int .i64 n, .agg #[.int .u64 p.id, .int .i64 p.pred, .slice a len cap]] w fun e w' => e = .returned (.tuple #[]) ∧ RingAt w' r gp gk ((R.setP n p.id).setK n p) ∧ Kp w w' gp gk := by
  obtain ⟨W1, hW1⟩ : ∃ W1, W1 = w.alloc (.cells #[.int .u64 p.id, .int .i64 p.pred, .slice a len cap] 54) := ⟨_, rfl⟩
  have b1 : Below w.heap.size w W1 := by rw [hW1]; exact below_one _ _
  have h1 := h.below b1
  have k0 : W1.cell? ⟨w.heap.size, 0, none⟩ = some (.int .u64 p.id) := by rw [hW1]; simp
  have k1 : W1.cell? ⟨w.heap.size, 1, none⟩ = some (.int .i64 p.pred) := by rw [hW1]; simp
  have k2 : W1.cell? ⟨w.heap.size, 2, none⟩ = some (.slice a len cap) := by rw [hW1]; simp
  obtain ⟨w2, e2, h2, kp2⟩ := (h1.drew (W1.drawn + 1)).putP n p.id hp.hid
  have e2' : (Instr.mapUpdate 47 (.map (some gp)) (.int .i64 n) (.int .u64 p.id)).run Tryz.prog W1.drew = .ok () w2 := e2
  have kp12 : Kp W1 w2 gp gk := (Kp.drawn W1 (W1.drawn + 1) gp gk).trans kp2
  have hlt := h.lt
  have n1 : w.heap.size ≠ gp := by omega
  have n2 : w.heap.size ≠ gk := by omega
  obtain ⟨mp, hmp, _⟩ := h.places
  obtain ⟨mk, hmk, _⟩ := h.known
  have hp2 : PeIn w2 p.id p.pred a len cap p.succ := (hp.below (Nat.le_refl _) b1).kp kp12 (hmp.of_block (b1.block _ hmp.lt)) (hmk.of_block (b1.block _ hmk.lt))
  obtain ⟨w3, e3, h3, kp3⟩ := (h2.drew (w2.drawn + 1)).putK n p (hp2.below (Nat.le_refl _) (w' := { w2 with drawn := w2.drawn + 1 }) ⟨rfl, rfl, rfl, Nat.le_refl _, fun _ _ => rfl⟩) hd
  have e3' : (Instr.mapUpdate 48 (.map (some gk)) (.int .i64 n) (.agg #[.int .u64 p.id, .int .i64 p.pred, .slice a len cap])).run Tryz.prog w2.drew = .ok () w3 := e3
  have kp23 : Kp w2 w3 gp gk := (Kp.drawn w2 (w2.drawn + 1) gp gk).trans kp3
  have x0 := h1.c0
  have x1 := h1.c1
  have y1 := h2.c1
  have j0 := kp12.cell k0 n1 n2
  have j1 := kp12.cell k1 n1 n2
  have j2 := kp12.cell k2 n1 n2
  have zz := h1.lt.1
  have zy := h2.lt.1
  have HR : Hid (RingAt w3 r gp gk ((R.setP n p.id).setK n p) ∧ Kp w w3 gp gk) := ⟨h3, (Kp.ofBelow b1).trans (kp12.trans kp23)⟩
  clear hd h h1 h2 h3 e2 e3 kp2 kp3 kp12 kp23 b1 hp hp2 hlt n1 n2 hmp hmk
  go_enter Tryz.func15, Tryz.ntmps15
  go_wp2
  rw [← hW1]
  clear hW1
  go_region
  go_wp2
  go_region
  go_wp2
  go_end0
  exact ⟨rfl, HR.out⟩
end Go.Proofs.YtkkkldglceiiiaaGreat
