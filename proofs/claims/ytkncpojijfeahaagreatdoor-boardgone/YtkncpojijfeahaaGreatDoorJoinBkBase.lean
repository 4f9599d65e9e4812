/- The board in memory: its box and its three maps. -/
import Derived.Test.YtkncpojijfeahaaGreatDoorJoinBkMap
import Derived.Test.YtkncpojijfeahaaGreatDoorJoinValName
import Derived.Test.YtkncpojijfeahaaGreatDoorRows
import Derived.ChangeArms
import Derived.DataReads
import Derived.Deep.Slices
import Derived.WalkKit
import Derived.ProofKit
import Derived.OpenShut
import Derived.Deep.Upon
import Derived.Laws.AppendOwn
import Derived.WalkLawsBesides
import Derived.Deep.AppendSrc
import Derived.Deep.RegionHeld3
import Derived.Deep.RegionLaw
import Derived.Deep.AppendLies
set_option linter.unnecessarySimpa false
namespace Go.Proofs.YtkncpojijfeahaaGreatDoor
open Go.ChangeShapes Go.WideShapes Go.ChangeAt Go.RowKit
open Go.ChangeMaps (setBlock)
set_option linter.unusedVariables false

/-- Whatever cells lie in a world lie there still. -/
structure Kc (w w' : World) : Prop where
  size : w.heap.size ≤ w'.heap.size
  cell : ∀ b o v, w.cell? ⟨b, o, none⟩ = some v → w'.heap[b]? = w.heap[b]?
theorem Kc.ofBelow {w w' : World} (h : Below w.heap.size w w') : Kc w w' := ⟨h.size, fun b o v hc => h.block b (cell_block hc)⟩
theorem Kc.setB {κ : Type} {kv : κ → Value} {w : World} {g : Nat} {m : List (κ × Value)} (h : MpK kv w g m) (o : Obj) : Kc w (setBlock w g o) :=
  ⟨by rw [setB_size]; exact Nat.le_refl _, fun b x v hc => setB_other (fun e => by rw [e, h.no_cell] at hc; cases hc) o⟩
theorem Kc.at {w w' : World} (k : Kc w w') {b o : Nat} {v : Value} (h : w.cell? ⟨b, o, none⟩ = some v) : w'.cell? ⟨b, o, none⟩ = some v := (World.cell?_of_block (a := ⟨b, o, none⟩) (k.cell b o v h)).trans h
theorem Kc.trans {a b c : World} (h : Kc a b) (h' : Kc b c) : Kc a c := ⟨Nat.le_trans h.size h'.size, fun x o v hc => (h'.cell x o v (h.at hc)).trans (h.cell x o v hc)⟩
theorem VlIn.kc {w w' : World} {v : Value} {az : List Vl} (h : VlIn w v az) (k : Kc w w') : VlIn w' v az := by
  obtain ⟨a, c, hv, hh⟩ := h.shape
  refine ⟨a, c, hv, fun hp => ?_⟩
  obtain ⟨g, ha, hg, hc, hj⟩ := hh hp
  exact ⟨g, ha, Nat.lt_of_lt_of_le hg k.size, hc, fun j hl => ⟨k.at (hj j hl).1, k.at (hj j hl).2⟩⟩
theorem PdIn.kc {w w' : World} {v : Value} {az : List Pd} (h : PdIn w v az) (k : Kc w w') : PdIn w' v az := by
  obtain ⟨a, c, hv, hh⟩ := h.shape
  refine ⟨a, c, hv, fun hp => ?_⟩
  obtain ⟨g, ha, hg, hc, hj⟩ := hh hp
  exact ⟨g, ha, Nat.lt_of_lt_of_le hg k.size, hc, fun j hl => ⟨k.at (hj j hl).1, k.at (hj j hl).2.1, k.at (hj j hl).2.2.1, k.at (hj j hl).2.2.2.1, k.at (hj j hl).2.2.2.2⟩⟩
theorem AtIn.kc {w w' : World} {v : Value} {az : List At} (h : AtIn w v az) (k : Kc w w') : AtIn w' v az := by
  obtain ⟨a, c, hv, hh⟩ := h.shape
  refine ⟨a, c, hv, fun hp => ?_⟩
  obtain ⟨g, ha, hg, hc, hj⟩ := hh hp
  exact ⟨g, ha, Nat.lt_of_lt_of_le hg k.size, hc, fun j hl => ⟨k.at (hj j hl).1, k.at (hj j hl).2.1, k.at (hj j hl).2.2.1, k.at (hj j hl).2.2.2⟩⟩

def EvR (w : World) (p : (Int × Int) × Value) (e : Bev) : Prop := p.1 = e.key ∧ ∃ u, p.2 = .agg #[u, .string e.pay] ∧ VlIn w u e.vs
def SbR (w : World) (p : (Int × Int) × Value) (s : Bsb) : Prop := p.1 = s.key ∧ PdIn w p.2 s.ps
theorem EvR.kc {w w' : World} (k : Kc w w') (p : (Int × Int) × Value) (e : Bev) (h : EvR w p e) : EvR w' p e := ⟨h.1, by obtain ⟨u, h1, h2⟩ := h.2; exact ⟨u, h1, h2.kc k⟩⟩
theorem SbR.kc {w w' : World} (k : Kc w w') (p : (Int × Int) × Value) (e : Bsb) (h : SbR w p e) : SbR w' p e := ⟨h.1, h.2.kc k⟩
/-- The board: its box lies in block p, its maps in ge, gs, gg. -/
structure BdAt (w : World) (p ge gs gg : Nat) (S : List At) (E : List Bev) (U : List Bsb) (G : List Bgf) : Prop where
  box : ∃ sv, w.heap[p]? = some (.cells #[sv, .map (some ge), .map (some gs), .map (some gg)] 85 (0, 0)) ∧ AtIn w sv S
  n1 : ge ≠ gs
  n2 : ge ≠ gg
  n3 : gs ≠ gg
  ev : ∃ m, MpK kv2 w ge m ∧ Rel2 (EvR w) m E
  sb : ∃ m, MpK kv2 w gs m ∧ Rel2 (SbR w) m U
  gf : MpK kv4 w gg (G.map fun g => (g, Value.agg #[]))
  sok : SchemaOk S
  eok : ∀ e ∈ E, EventOk S e.vs e.pay.size
  uok : ∀ u ∈ U, FilterOk S u.ps
/-- All stays but for three blocks. -/
structure Kb (w w' : World) (ge gs gg : Nat) : Prop where
  os : w'.os = w.os
  tape : w'.tape = w.tape
  output : w'.output = w.output
  size : w.heap.size ≤ w'.heap.size
  block : ∀ b, b < w.heap.size → b ≠ ge → b ≠ gs → b ≠ gg → w'.heap[b]? = w.heap[b]?
theorem Kb.ofBelow {w w' : World} {ge gs gg : Nat} (h : Below w.heap.size w w') : Kb w w' ge gs gg := ⟨h.os, h.tape, h.output, h.size, fun b hb _ _ _ => h.block b hb⟩
theorem Kb.trans {a b c : World} {ge gs gg : Nat} (h : Kb a b ge gs gg) (h' : Kb b c ge gs gg) : Kb a c ge gs gg :=
  ⟨h'.os.trans h.os, h'.tape.trans h.tape, h'.output.trans h.output, Nat.le_trans h.size h'.size, fun x hx n1 n2 n3 => (h'.block x (Nat.lt_of_lt_of_le hx h.size) n1 n2 n3).trans (h.block x hx n1 n2 n3)⟩
theorem Kb.setB (w : World) {ge gs gg g : Nat} (o : Obj) (hg : g = ge ∨ g = gs ∨ g = gg) : Kb w (setBlock w g o) ge gs gg :=
  ⟨rfl, rfl, rfl, by rw [setB_size]; exact Nat.le_refl _, fun b hb n1 n2 n3 => setB_other (by rcases hg with rfl | rfl | rfl <;> assumption) o⟩
theorem Kb.below {w w' : World} {ge gs gg B : Nat} (h : Kb w w' ge gs gg) (h1 : B ≤ ge) (h2 : B ≤ gs) (h3 : B ≤ gg) (hB : B ≤ w.heap.size) : Below B w w' :=
  ⟨h.os, h.tape, h.output, h.size, fun x hx => h.block x (by omega) (by omega) (by omega) (by omega)⟩
section
variable {w w' : World} {p ge gs gg : Nat} {S : List At} {E : List Bev} {U : List Bsb} {G : List Bgf}
theorem BdAt.kc (h : BdAt w p ge gs gg S E U G) (k : Kb w w' ge gs gg) : Kc w w' := by
  refine ⟨k.size, fun b o v hc => k.block b (cell_block hc) (fun e => ?_) (fun e => ?_) (fun e => ?_)⟩
  · obtain ⟨m, hm, _⟩ := h.ev; rw [e, hm.no_cell] at hc; cases hc
  · obtain ⟨m, hm, _⟩ := h.sb; rw [e, hm.no_cell] at hc; cases hc
  · rw [e, h.gf.no_cell] at hc; cases hc
theorem BdAt.lts (h : BdAt w p ge gs gg S E U G) : p < w.heap.size ∧ ge < w.heap.size ∧ gs < w.heap.size ∧ gg < w.heap.size := by
  obtain ⟨sv, h1, _⟩ := h.box
  obtain ⟨m, hm, _⟩ := h.ev
  obtain ⟨m', hm', _⟩ := h.sb
  exact ⟨lt_of_block h1, hm.lt, hm'.lt, h.gf.lt⟩
theorem BdAt.below (h : BdAt w p ge gs gg S E U G) (hb : Below w.heap.size w w') : BdAt w' p ge gs gg S E U G := by
  have hl := h.lts
  have k := Kc.ofBelow hb
  obtain ⟨sv, h1, h2⟩ := h.box
  obtain ⟨m, hm, hr⟩ := h.ev
  obtain ⟨m', hm', hr'⟩ := h.sb
  exact ⟨⟨sv, (hb.block _ hl.1).trans h1, h2.below hb⟩, h.n1, h.n2, h.n3, ⟨m, hm.of_block (hb.block _ hl.2.1), rel2_mono (EvR.kc k) _ _ hr⟩, ⟨m', hm'.of_block (hb.block _ hl.2.2.1), rel2_mono (SbR.kc k) _ _ hr'⟩, h.gf.of_block (hb.block _ hl.2.2.2), h.sok, h.eok, h.uok⟩
theorem BdAt.drew (h : BdAt w p ge gs gg S E U G) : BdAt w.drew p ge gs gg S E U G := h.below ⟨rfl, rfl, rfl, Nat.le_refl _, fun _ _ => rfl⟩
theorem BdAt.cells (h : BdAt w p ge gs gg S E U G) : ∃ a c, AtIn w (.slice a S.length c) S ∧ w.cell? ⟨p, 0, none⟩ = some (.slice a S.length c) ∧ w.cell? ⟨p, 1, none⟩ = some (.map (some ge)) ∧ w.cell? ⟨p, 2, none⟩ = some (.map (some gs)) ∧ w.cell? ⟨p, 3, none⟩ = some (.map (some gg)) ∧ p < w.heap.size := by
  obtain ⟨sv, h1, h2⟩ := h.box
  obtain ⟨a, c, rfl, _⟩ := h2.shape
  exact ⟨a, c, h2, by simp [World.cell?, h1], by simp [World.cell?, h1], by simp [World.cell?, h1], by simp [World.cell?, h1], lt_of_block h1⟩
theorem zero_ev (w : World) : (zeroValue 27).run Tryz.prog w = .ok (.agg #[.slice none 0 0, .string ByteArray.empty]) w := by kernel_rfl
theorem zero_fl (w : World) : (zeroValue 87).run Tryz.prog w = .ok (.slice none 0 0) w := by kernel_rfl
theorem zero_st (w : World) : (zeroValue 105).run Tryz.prog w = .ok (.agg #[]) w := by kernel_rfl
/-- Is an event there? -/
theorem BdAt.ask_ev (h : BdAt w p ge gs gg S E U G) (k : Int × Int) :
    ((∀ e ∈ E, e.key ≠ k) ∧ ∀ w', Below w.heap.size w w' → (Instr.lookup 81 (.map (some ge)) (.agg #[.int .i64 k.1, .int .i64 k.2]) true).run Tryz.prog w' = .ok (.tuple #[.agg #[.slice none 0 0, .string ByteArray.empty], .bool false]) w') ∨
    ∃ e u, e ∈ E ∧ e.key = k ∧ VlIn w u e.vs ∧ ∀ w', Below w.heap.size w w' → (Instr.lookup 81 (.map (some ge)) (.agg #[.int .i64 k.1, .int .i64 k.2]) true).run Tryz.prog w' = .ok (.tuple #[.agg #[u, .string e.pay], .bool true]) w' := by
  obtain ⟨m, hm, hr⟩ := h.ev
  rcases look_rel (key := Bev.key) (fun p b q => q.1) hr k with ⟨h1, h2⟩ | ⟨e, v, h1, h2, h3, h4⟩
  · exact .inl ⟨h2, fun w' hb => ((hm.of_block (hb.block _ hm.lt)).look_none key_stamp Tryz.underlying81 (zero_ev w') h1).1⟩
  · obtain ⟨_, u, hv, hu⟩ := h4
    simp only at hv
    refine .inr ⟨e, u, h1, h2, hu, fun w' hb => ?_⟩
    rw [← hv]
    exact ((hm.of_block (hb.block _ hm.lt)).look_some key_stamp Tryz.underlying81 h3).1
/-- Is a subscription there? -/
theorem BdAt.ask_sb (h : BdAt w p ge gs gg S E U G) (k : Int × Int) :
    ((∀ e ∈ U, e.key ≠ k) ∧ ∀ w', Below w.heap.size w w' → (Instr.lookup 82 (.map (some gs)) (.agg #[.int .i64 k.1, .int .i64 k.2]) true).run Tryz.prog w' = .ok (.tuple #[.slice none 0 0, .bool false]) w') ∨
    ∃ (e : Bsb) (a : Option Addr) (c : Nat), e ∈ U ∧ e.key = k ∧ PdIn w (.slice a e.ps.length c) e.ps ∧ ∀ w', Below w.heap.size w w' → (Instr.lookup 82 (.map (some gs)) (.agg #[.int .i64 k.1, .int .i64 k.2]) true).run Tryz.prog w' = .ok (.tuple #[.slice a e.ps.length c, .bool true]) w' := by
  obtain ⟨m, hm, hr⟩ := h.sb
  rcases look_rel (key := Bsb.key) (fun p b q => q.1) hr k with ⟨h1, h2⟩ | ⟨e, v, h1, h2, h3, h4⟩
  · exact .inl ⟨h2, fun w' hb => ((hm.of_block (hb.block _ hm.lt)).look_none key_who Tryz.underlying82 (zero_fl w') h1).1⟩
  · obtain ⟨_, hu⟩ := h4
    simp only at hu
    obtain ⟨a, c, rfl, _⟩ := hu.shape
    exact .inr ⟨e, a, c, h1, h2, hu, fun w' hb => ((hm.of_block (hb.block _ hm.lt)).look_some key_who Tryz.underlying82 h3).1⟩
theorem look_gf (G : List Bgf) (k : Bgf) : lookK (G.map fun g => (g, Value.agg #[])) k = if k ∈ G then some (.agg #[]) else none := by
  induction G with
  | nil => simp [lookK]
  | cons g G ih =>
    by_cases e : g = k
    · subst e; simp [lookK]
    · have e' : ¬ k = g := fun q => e q.symm
      simp only [List.map_cons, lookK, e, if_false, ih, List.mem_cons, e', false_or]
/-- Did it get it? -/
theorem BdAt.ask_gf (h : BdAt w p ge gs gg S E U G) (k : Bgf) :
    ∀ w', Below w.heap.size w w' → (Instr.lookup 83 (.map (some gg)) (.agg #[.int .i64 k.1.1, .int .i64 k.1.2, .int .i64 k.2.1, .int .i64 k.2.2]) true).run Tryz.prog w' = .ok (.tuple #[.agg #[], .bool (decide (k ∈ G))]) w' := by
  intro w' hb
  have hm := h.gf.of_block (hb.block _ h.gf.lt)
  by_cases e : k ∈ G
  · rw [decide_eq_true e]
    exact (hm.look_some key_gift Tryz.underlying83 (by rw [look_gf, if_pos e])).1
  · rw [decide_eq_false e]
    exact (hm.look_none key_gift Tryz.underlying83 (zero_st w') (by rw [look_gf, if_neg e])).1
/-- An event is laid. -/
theorem BdAt.put_ev (h : BdAt w p ge gs gg S E U G) (k : Int × Int) (hno : ∀ e ∈ E, e.key ≠ k) {u : Value} {vs : List Vl} {pay : ByteArray} (hu : VlIn w u vs) (hok : EventOk S vs pay.size) :
    ∃ w', (Instr.mapUpdate 81 (.map (some ge)) (.agg #[.int .i64 k.1, .int .i64 k.2]) (.agg #[u, .string pay])).run Tryz.prog w = .ok () w' ∧ BdAt w' p ge gs gg S (E ++ [⟨k, vs, pay⟩]) U G ∧ Kb w w' ge gs gg := by
  obtain ⟨m, hm, hr⟩ := h.ev
  have hl : lookK m k = none := by
    rcases look_rel (key := Bev.key) (fun p b q => q.1) hr k with ⟨h1, _⟩ | ⟨e, v, h1, h2, _⟩
    · exact h1
    · exact absurd h2 (hno e h1)
  obtain ⟨o, h1, h2⟩ := hm.put key_stamp Tryz.underlying81 hl (.agg #[u, .string pay])
  have kc : Kc w (setBlock w ge o) := Kc.setB hm o
  have kb : Kb w (setBlock w ge o) ge gs gg := Kb.setB w o (.inl rfl)
  obtain ⟨sv, b1, b2⟩ := h.box
  have npe : p ≠ ge := fun e => by
    obtain ⟨_, es, c, q, _⟩ := hm
    rw [e, q] at b1; cases b1
  obtain ⟨m', hm', hr'⟩ := h.sb
  refine ⟨_, h1, ⟨⟨sv, (setB_other npe o).trans b1, b2.kc kc⟩, h.n1, h.n2, h.n3, ⟨_, h2, rel2_snoc ⟨rfl, u, rfl, hu.kc kc⟩ _ _ (rel2_mono (EvR.kc kc) _ _ hr)⟩, ⟨m', hm'.of_block (setB_other (Ne.symm h.n1) o), rel2_mono (SbR.kc kc) _ _ hr'⟩, h.gf.of_block (setB_other (Ne.symm h.n2) o), h.sok, fun e he => ?_, h.uok⟩, kb⟩
  rcases List.mem_append.1 he with q | q
  · exact h.eok e q
  · simp at q; subst q; exact hok
/-- A subscription is laid. -/
theorem BdAt.put_sb (h : BdAt w p ge gs gg S E U G) (k : Int × Int) (hno : ∀ e ∈ U, e.key ≠ k) {u : Value} {ps : List Pd} (hu : PdIn w u ps) (hok : FilterOk S ps) :
    ∃ w', (Instr.mapUpdate 82 (.map (some gs)) (.agg #[.int .i64 k.1, .int .i64 k.2]) u).run Tryz.prog w = .ok () w' ∧ BdAt w' p ge gs gg S E (U ++ [⟨k, ps⟩]) G ∧ Kb w w' ge gs gg := by
  obtain ⟨m, hm, hr⟩ := h.sb
  have hl : lookK m k = none := by
    rcases look_rel (key := Bsb.key) (fun p b q => q.1) hr k with ⟨h1, _⟩ | ⟨e, v, h1, h2, _⟩
    · exact h1
    · exact absurd h2 (hno e h1)
  obtain ⟨o, h1, h2⟩ := hm.put key_who Tryz.underlying82 hl u
  have kc : Kc w (setBlock w gs o) := Kc.setB hm o
  have kb : Kb w (setBlock w gs o) ge gs gg := Kb.setB w o (.inr (.inl rfl))
  obtain ⟨sv, b1, b2⟩ := h.box
  have npe : p ≠ gs := fun e => by
    obtain ⟨_, es, c, q, _⟩ := hm
    rw [e, q] at b1; cases b1
  obtain ⟨m', hm', hr'⟩ := h.ev
  refine ⟨_, h1, ⟨⟨sv, (setB_other npe o).trans b1, b2.kc kc⟩, h.n1, h.n2, h.n3, ⟨m', hm'.of_block (setB_other h.n1 o), rel2_mono (EvR.kc kc) _ _ hr'⟩, ⟨_, h2, rel2_snoc ⟨rfl, hu.kc kc⟩ _ _ (rel2_mono (SbR.kc kc) _ _ hr)⟩, h.gf.of_block (setB_other (Ne.symm h.n3) o), h.sok, h.eok, fun e he => ?_⟩, kb⟩
  rcases List.mem_append.1 he with q | q
  · exact h.uok e q
  · simp at q; subst q; exact hok
/-- It is given. -/
theorem BdAt.put_gf (h : BdAt w p ge gs gg S E U G) (k : Bgf) (hno : k ∉ G) :
    ∃ w', (Instr.mapUpdate 83 (.map (some gg)) (.agg #[.int .i64 k.1.1, .int .i64 k.1.2, .int .i64 k.2.1, .int .i64 k.2.2]) (.agg #[])).run Tryz.prog w = .ok () w' ∧ BdAt w' p ge gs gg S E U (G ++ [k]) ∧ Kb w w' ge gs gg := by
  obtain ⟨o, h1, h2⟩ := h.gf.put key_gift Tryz.underlying83 (k := k) (by rw [look_gf, if_neg hno]) (.agg #[])
  have kc : Kc w (setBlock w gg o) := Kc.setB h.gf o
  have kb : Kb w (setBlock w gg o) ge gs gg := Kb.setB w o (.inr (.inr rfl))
  obtain ⟨sv, b1, b2⟩ := h.box
  have npe : p ≠ gg := fun e => by
    obtain ⟨_, es, c, q, _⟩ := h.gf
    rw [e, q] at b1; cases b1
  obtain ⟨m', hm', hr'⟩ := h.ev
  obtain ⟨m, hm, hr⟩ := h.sb
  exact ⟨_, h1, ⟨⟨sv, (setB_other npe o).trans b1, b2.kc kc⟩, h.n1, h.n2, h.n3, ⟨m', hm'.of_block (setB_other h.n2 o), rel2_mono (EvR.kc kc) _ _ hr'⟩, ⟨m, hm.of_block (setB_other h.n3 o), rel2_mono (SbR.kc kc) _ _ hr⟩, by rw [List.map_append]; exact h2, h.sok, h.eok, h.uok⟩, kb⟩
/-- A subscription goes. -/
theorem BdAt.del_sb (h : BdAt w p ge gs gg S E U G) (k : Int × Int) (ty ty2 : TypeId) :
    ∃ w', (Builtin.delete_ #[82, ty2] ty #[.map (some gs), .agg #[.int .i64 k.1, .int .i64 k.2]]).run Tryz.prog w = .ok (.tuple #[]) w' ∧ BdAt w' p ge gs gg S E (U.filter fun u => u.key ≠ k) G ∧ Kb w w' ge gs gg := by
  obtain ⟨m, hm, hr⟩ := h.sb
  obtain ⟨o, h1, h2⟩ := hm.del key_who Tryz.underlying82 k ty ty2
  have kc : Kc w (setBlock w gs o) := Kc.setB hm o
  have kb : Kb w (setBlock w gs o) ge gs gg := Kb.setB w o (.inr (.inl rfl))
  obtain ⟨sv, b1, b2⟩ := h.box
  have npe : p ≠ gs := fun e => by
    obtain ⟨_, es, c, q, _⟩ := hm
    rw [e, q] at b1; cases b1
  obtain ⟨m', hm', hr'⟩ := h.ev
  exact ⟨_, h1, ⟨⟨sv, (setB_other npe o).trans b1, b2.kc kc⟩, h.n1, h.n2, h.n3, ⟨m', hm'.of_block (setB_other h.n1 o), rel2_mono (EvR.kc kc) _ _ hr'⟩, ⟨_, h2, rel2_filter (fun p b q => by rw [q.1]) _ _ (rel2_mono (SbR.kc kc) _ _ hr)⟩, h.gf.of_block (setB_other (Ne.symm h.n3) o), h.sok, h.eok, fun e he => h.uok e (List.mem_filter.1 he).1⟩, kb⟩
theorem BdAt.len_sb (h : BdAt w p ge gs gg S E U G) (ty : TypeId) : (Builtin.len_ #[82] ty #[.map (some gs)]).run Tryz.prog w = .ok (.int .i64 U.length) w := by
  obtain ⟨m, hm, hr⟩ := h.sb
  rw [hm.len Tryz.underlying82 ty, rel2_len _ _ hr]
end
end Go.Proofs.YtkncpojijfeahaaGreatDoor

/- Packets and bags, as lists. No program in sight. -/
namespace Go.Proofs.YtkncpojijfeahaaGreatDoor
open Go.RowKit

structure Pk where
  id : Int
  src : Int
  dst : Int
  s : ByteArray

def pk0 : Pk := ⟨0, 0, 0, ByteArray.empty⟩
/-- A packet as cells. -/
def Pk.cells (p : Pk) : List Value := [.int .i64 p.id, .int .i64 p.src, .int .i64 p.dst, .string p.s]
theorem Pk.cells_len (p : Pk) : p.cells.length = 4 := rfl
/-- A packet as a value. -/
def Pk.val (p : Pk) : Value := .agg #[.int .i64 p.id, .int .i64 p.src, .int .i64 p.dst, .string p.s]

def i64 (x : Int) : Prop := -9223372036854775808 ≤ x ∧ x ≤ 9223372036854775807
/-- What stands in a packet of a bag whose last number is m. -/
structure Pk.ok (m : Int) (p : Pk) : Prop where
  lo : 1 ≤ p.id
  hi : p.id ≤ m
  src : i64 p.src
  dst : i64 p.dst
  s : p.s.size ≤ 2000

def Rising (ps : List Pk) : Prop := ps.Pairwise fun p q => p.id < q.id

structure Bg where
  ps : List Pk
  last : Int

structure Bg.ok (g : Bg) : Prop where
  rise : Rising g.ps
  all : ∀ p ∈ g.ps, p.ok g.last
  len : g.ps.length ≤ 4000
  lo : 0 ≤ g.last

def bg0 : Bg := ⟨[], 0⟩
theorem bg0_ok : bg0.ok := ⟨List.Pairwise.nil, by simp [bg0], by simp [bg0], by simp [bg0]⟩

def Bg.add (g : Bg) (a b : Int) (s : ByteArray) : Bg := ⟨g.ps ++ [⟨g.last + 1, a, b, s⟩], g.last + 1⟩
def Bg.del (g : Bg) (k : Nat) : Bg := ⟨g.ps.eraseIdx k, g.last⟩
def Bg.purge (g : Bg) (t : Int) : Bg := ⟨g.ps.filter fun p => p.dst != t, g.last⟩

theorem Pk.ok.mono {m n : Int} {p : Pk} (h : p.ok m) (hmn : m ≤ n) : p.ok n := ⟨h.lo, Int.le_trans h.hi hmn, h.src, h.dst, h.s⟩

theorem Bg.ok.add {g : Bg} (h : g.ok) (a b : Int) (s : ByteArray) (hs : s.size ≤ 2000) (hl : g.ps.length < 4000) (ha : i64 a) (hb : i64 b) : (g.add a b s).ok := by
  refine ⟨?_, ?_, ?_, ?_⟩
  · unfold Bg.add Rising
    refine List.pairwise_append.2 ⟨h.rise, List.pairwise_singleton _ _, fun p hp q hq => ?_⟩
    obtain rfl := List.mem_singleton.1 hq
    have := (h.all p hp).hi
    show p.id < g.last + 1
    omega
  · intro p hp
    rcases List.mem_append.1 hp with hp | hp
    · exact (h.all p hp).mono (by show g.last ≤ g.last + 1; omega)
    · obtain rfl := List.mem_singleton.1 hp
      exact ⟨by show 1 ≤ g.last + 1; have := h.lo; omega, Int.le_refl _, ha, hb, hs⟩
  · show (g.ps ++ [_]).length ≤ 4000; simp; omega
  · show 0 ≤ g.last + 1; have := h.lo; omega

theorem Bg.ok.del {g : Bg} (h : g.ok) (k : Nat) : (g.del k).ok :=
  ⟨h.rise.sublist (List.eraseIdx_sublist _ _), fun p hp => h.all p ((List.eraseIdx_sublist _ _).subset hp), Nat.le_trans (List.eraseIdx_sublist _ _).length_le h.len, h.lo⟩
theorem Bg.ok.purge {g : Bg} (h : g.ok) (t : Int) : (g.purge t).ok :=
  ⟨h.rise.sublist List.filter_sublist, fun p hp => h.all p (List.filter_sublist.subset hp), Nat.le_trans List.filter_sublist.length_le h.len, h.lo⟩

theorem rising_lt {ps : List Pk} (h : Rising ps) {i j : Nat} (hij : i < j) (hj : j < ps.length) : (ps.getD i pk0).id < (ps.getD j pk0).id := by
  have := List.pairwise_iff_getElem.1 h i j (by omega) hj hij
  simpa [List.getD, List.getElem?_eq_getElem (show i < ps.length by omega), List.getElem?_eq_getElem hj] using this
theorem rising_le {ps : List Pk} (h : Rising ps) {i j : Nat} (hij : i ≤ j) (hj : j < ps.length) : (ps.getD i pk0).id ≤ (ps.getD j pk0).id := by
  by_cases e : i = j
  · subst e; exact Int.le_refl _
  · exact Int.le_of_lt (rising_lt h (by omega) hj)
theorem getD_mem (ps : List Pk) (i : Nat) (h : i < ps.length) : ps.getD i pk0 ∈ ps := by
  rw [List.getD_eq_getElem?_getD, List.getElem?_eq_getElem h]; simp
theorem mem_getD {ps : List Pk} {p : Pk} (h : p ∈ ps) : ∃ i, i < ps.length ∧ ps.getD i pk0 = p := by
  obtain ⟨i, hi, e⟩ := List.mem_iff_getElem.1 h
  exact ⟨i, hi, by rw [List.getD_eq_getElem?_getD, List.getElem?_eq_getElem hi]; simpa using e⟩
/-- Is there a packet of this number, and where? -/
theorem at_or (ps : List Pk) (id : Int) : (∃ k, k < ps.length ∧ (ps.getD k pk0).id = id) ∨ ∀ p ∈ ps, p.id ≠ id := by
  by_cases h : ∃ k, k < ps.length ∧ (ps.getD k pk0).id = id
  · exact .inl h
  · refine .inr fun p hp e => h ?_
    obtain ⟨k, hk, hkp⟩ := mem_getD hp
    exact ⟨k, hk, by rw [hkp]; exact e⟩
/-- Without the packet at k is without the packet of its number. -/
theorem erase_filter {ps : List Pk} (h : Rising ps) (k : Nat) (hk : k < ps.length) : ps.eraseIdx k = ps.filter fun p => p.id != (ps.getD k pk0).id := by
  induction ps generalizing k with
  | nil => simp at hk
  | cons u us ih =>
    have hu := List.pairwise_cons.1 h
    cases k with
    | zero =>
      simp only [List.eraseIdx_zero, List.tail_cons, List.getD_cons_zero]
      rw [List.filter_cons]
      simp only [bne_self_eq_false, Bool.false_eq_true, if_false]
      refine (List.filter_eq_self.2 fun p hp => ?_).symm
      have := hu.1 p hp
      simp; omega
    | succ k =>
      have hk' : k < us.length := by simpa using hk
      have hm := hu.1 _ (getD_mem us k hk')
      simp only [List.eraseIdx_cons_succ, List.getD_cons_succ]
      rw [List.filter_cons]
      have e : (u.id != (us.getD k pk0).id) = true := by simp only [bne_iff_ne, ne_eq]; omega
      rw [e, if_pos rfl, ih hu.2 k hk']
end Go.Proofs.YtkncpojijfeahaaGreatDoor

/- Slices that came in, whatever they are of: what a walk is told of them. -/
namespace Go.Proofs.YtkncpojijfeahaaGreatDoor
open Go.ChangeShapes Go.WideShapes Go.ChangeAt Go.RowKit Go.Deep
set_option linter.unusedVariables false

/-- The things xs, of k cells each, lie where the slice shows. -/
def InRow {α : Type} (k : Nat) (enc : α → List Value) (ok : α → Prop) (d : α) (w : World) (a : Option Addr) (len : Nat) (xs : List α) : Prop :=
  xs.length = len ∧ len ≤ 9223372036854775807 ∧ (len = 0 ∨ ∃ b o, a = some ⟨b, o, none⟩ ∧ b < w.heap.size ∧ ∀ i, i < len → ok (xs.getD i d) ∧ ∀ j, j < k → w.cell? ⟨b, o + i * k + j, none⟩ = (enc (xs.getD i d))[j]?)

section
variable {H : Type} {enc' : TypeId × Value → H} {W : World}
set_option maxRecDepth 100000 in
theorem inrow_of {α : Type} (k : Nat) (enc : α → List Value) (ok : α → Prop) (d : α) (TS E : TypeId) (hT : Tryz.prog.underlying TS = some (.slice E)) (hk : Tryz.prog.cellsOf E = k) (hk0 : 0 < k) (hlen : ∀ a, (enc a).length = k)
    (hel : ∀ n cs x, DataW.trod enc' Tryz.prog W 0 (fun _ => true) true n E cs = some x → ∃ a, cs = enc a ∧ ok a)
    {fuel : Nat} {a : Option Addr} {len cap : Nat} {x : DataW H × List MemPlace}
    (h : DataW.trod enc' Tryz.prog W 0 (fun _ => true) true fuel TS (Value.slice a len cap).cells.toList = some x) : ∃ xs, InRow k enc ok d W a len xs := by
  rcases open_slice hT h with ⟨hcs, _⟩ | ⟨ad, l, c, m, n, D, Pl, hcs, _, hl, hm, hmm, _, hx⟩
  · simp [Value.cells] at hcs
    exact ⟨[], hcs.2.1.symm, by omega, .inl hcs.2.1⟩
  · simp [Value.cells] at hcs
    obtain ⟨rfl, rfl, rfl⟩ := hcs
    by_cases h0 : len = 0
    · exact ⟨[], h0.symm, by omega, .inl h0⟩
    · rw [hk] at hx
      simp at hmm
      subst hmm
      have each : ∀ i, i < m → ∃ t : α, W.cells? 0 (ad.add (i * k)) k = some (enc t) ∧ ok t := fun i hi => by
        obtain ⟨cs', h1, h2⟩ := hx i hi
        obtain ⟨t, rfl, ht⟩ := hel _ _ _ h2
        exact ⟨t, h1, ht⟩
      haveI : Inhabited α := ⟨d⟩
      obtain ⟨f, hf⟩ := choose_lt each
      obtain ⟨b, off, spot⟩ := ad
      have cellAt : ∀ i, i < m → ∀ j, j < k → W.cell? ((⟨b, off, spot⟩ : Addr).add (i * k + j)) = (enc (f i))[j]? := fun i hi j hj => by
        have := (World.cells?_some (hf i hi).1).2.2 j hj
        rwa [add_add] at this
      have hsome : ∃ u, W.cell? ((⟨b, off, spot⟩ : Addr).add (0 * k + 0)) = some u := by
        rw [cellAt 0 (by omega) 0 hk0]
        exact ⟨_, List.getElem?_eq_getElem (by rw [hlen]; exact hk0)⟩
      obtain ⟨u0, hu0⟩ := hsome
      have hspot : spot = none := by
        simpa [Addr.add] using World.cell?_spot hu0
      subst hspot
      have cellAt' : ∀ i, i < m → ∀ j, j < k → W.cell? ⟨b, off + i * k + j, none⟩ = (enc (f i))[j]? := fun i hi j hj => by
        rw [← cellAt i hi j hj]; congr 1
        unfold Addr.add; split <;> simp_all [Nat.add_assoc]
      have hb : b < W.heap.size := by
        have e : (⟨b, off, none⟩ : Addr).add (0 * k + 0) = ⟨b, off + (0 * k + 0), none⟩ := by unfold Addr.add; split <;> simp_all
        rw [e] at hu0
        exact World.block_lt_of_cell? _ _ hu0
      have hget : ∀ j, j < len → (((List.range len).map f).getD j d) = f j := fun j hj => by simp [List.getD, hj]
      unfold maxLen at hm
      refine ⟨(List.range len).map f, by simp, by omega, .inr ⟨b, off, rfl, hb, fun i hi => ?_⟩⟩
      rw [hget i hi]
      exact ⟨(hf i (by omega)).2, fun j hj => cellAt' i (by omega) j hj⟩

theorem InRow.below {α : Type} {k : Nat} {enc : α → List Value} {ok : α → Prop} {d : α} {w w' : World} {a : Option Addr} {len : Nat} {xs : List α} (h : InRow k enc ok d w a len xs) {B : Nat} (hB : w.heap.size ≤ B) (hb : Below B w w') : InRow k enc ok d w' a len xs := by
  refine ⟨h.1, h.2.1, ?_⟩
  rcases h.2.2 with h0 | ⟨b, o, ha, hlt, hc⟩
  · exact .inl h0
  · exact .inr ⟨b, o, ha, by have := hb.size; omega, fun i hi => ⟨(hc i hi).1, fun j hj => (hb.cell (p := ⟨b, o + i * k + j, none⟩) (by show b < B; omega)).trans ((hc i hi).2 j hj)⟩⟩

/-- A text. -/
def encS (s : ByteArray) : List Value := [.string s]
def okS (s : ByteArray) : Prop := s.size ≤ 9223372036854775807
theorem str_of (n : Nat) (cs : List Value) (x : DataW H × List MemPlace) (h : DataW.trod enc' Tryz.prog W 0 (fun _ => true) true n 9 cs = some x) : ∃ s, cs = encS s ∧ okS s := by
  obtain ⟨s, e, _, ws⟩ := DataW.trod_string Tryz.underlying9 h
  exact ⟨s, e, ws⟩
theorem cellsS1 : Tryz.prog.cellsOf 9 = 1 := by kernel_rfl
theorem lenS (s : ByteArray) : (encS s).length = 1 := rfl

/-- An int. -/
def encI (n : Int) : List Value := [.int .i64 n]
theorem int_of (n : Nat) (cs : List Value) (x : DataW H × List MemPlace) (h : DataW.trod enc' Tryz.prog W 0 (fun _ => true) true n 3 cs = some x) : ∃ s, cs = encI s ∧ i64 s := by
  obtain ⟨s, e, _, ws⟩ := DataW.trod_int Tryz.underlying3 h
  exact ⟨s, e, bounds_i64 ws⟩
theorem cellsI1 : Tryz.prog.cellsOf 3 = 1 := by kernel_rfl
theorem lenI (s : Int) : (encI s).length = 1 := rfl

/-- A call of wigwaglaw03's. -/
structure Ac3 where
  kind : Int
  a : Int
  b : Int
  s : ByteArray
def ac0 : Ac3 := ⟨0, 0, 0, ByteArray.empty⟩
def Ac3.cells (t : Ac3) : List Value := [.int .i64 t.kind, .int .i64 t.a, .int .i64 t.b, .string t.s]
def Ac3.ok (t : Ac3) : Prop := i64 t.kind ∧ i64 t.a ∧ i64 t.b ∧ t.s.size ≤ 9223372036854775807
theorem lenAc3 (s : Ac3) : s.cells.length = 4 := rfl
theorem inrow_end : True := trivial
end
end Go.Proofs.YtkncpojijfeahaaGreatDoor

/- wigwaglaw05's schema, and its awake. -/
namespace Go.Proofs.YtkncpojijfeahaaGreatDoor
open Go.ChangeShapes Go.WideShapes Go.ChangeAt Go.RowKit
set_option linter.unusedVariables false

theorem blk_cell {w : World} {g j : Nat} {vs : Array Value} {t : TypeId} (h : w.heap[g]? = some (.cells vs t (0, 0))) (hj : j < vs.size) : w.cell? ⟨g, j, none⟩ = some vs[j] := by
  simp [World.cell?, h, hj]
theorem flat_cell {α : Type} (enc : α → List Value) (k : Nat) (hk : ∀ a, (enc a).length = k) (d : α) {w : World} {g : Nat} {t : TypeId} (l : List α) (h : w.heap[g]? = some (.cells (l.flatMap enc).toArray t (0, 0))) (i j : Nat) (hi : i < l.length) (hj : j < k) :
    w.cell? ⟨g, i * k + j, none⟩ = (enc (l.getD i d))[j]? := by
  have hx := flat_get enc k hk d l i j hi hj
  have hlt : i * k + j < (l.flatMap enc).length := by
    rw [flat_len enc k hk]
    have := Nat.mul_le_mul_right k (show i + 1 ≤ l.length by omega)
    rw [Nat.add_mul] at this; omega
  rw [blk_cell h (by simpa using hlt), ← hx]
  simp
theorem AtIn.ofBlock {w : World} {g n c : Nat} {t : TypeId} (az : List At) (hn : n = az.length) (h : w.heap[g]? = some (.cells (az.flatMap At.cells).toArray t (0, 0))) (hc : az.length ≤ c) : AtIn w (.slice (some ⟨g, 0, none⟩) n c) az := by
  refine ⟨_, c, by rw [hn], fun _ => ⟨g, rfl, lt_of_block h, hc, fun j hj => ?_⟩⟩
  have e := fun i hi => flat_cell At.cells 4 At.cells_len at0 az h j i hj hi
  exact ⟨by simpa [At.cells] using e 0 (by omega), by simpa [At.cells] using e 1 (by omega), by simpa [At.cells] using e 2 (by omega), by simpa [At.cells] using e 3 (by omega)⟩
theorem VlIn.ofBlock {w : World} {g n c : Nat} {t : TypeId} (az : List Vl) (hn : n = az.length) (h : w.heap[g]? = some (.cells (az.flatMap Vl.cells).toArray t (0, 0))) (hc : az.length ≤ c) : VlIn w (.slice (some ⟨g, 0, none⟩) n c) az := by
  refine ⟨_, c, by rw [hn], fun _ => ⟨g, rfl, lt_of_block h, hc, fun j hj => ?_⟩⟩
  have e := fun i hi => flat_cell Vl.cells 2 Vl.cells_len vl0 az h j i hj hi
  exact ⟨by simpa [Vl.cells] using e 0 (by omega), by simpa [Vl.cells] using e 1 (by omega)⟩
theorem PdIn.ofBlock {w : World} {g n c : Nat} {t : TypeId} (az : List Pd) (hn : n = az.length) (h : w.heap[g]? = some (.cells (az.flatMap Pd.cells).toArray t (0, 0))) (hc : az.length ≤ c) : PdIn w (.slice (some ⟨g, 0, none⟩) n c) az := by
  refine ⟨_, c, by rw [hn], fun _ => ⟨g, rfl, lt_of_block h, hc, fun j hj => ?_⟩⟩
  have e := fun i hi => flat_cell Pd.cells 5 Pd.cells_len pd0 az h j i hj hi
  exact ⟨by simpa [Pd.cells] using e 0 (by omega), by simpa [Pd.cells] using e 1 (by omega), by simpa [Pd.cells] using e 2 (by omega), by simpa [Pd.cells] using e 3 (by omega), by simpa [Pd.cells] using e 4 (by omega)⟩

abbrev sPrice : ByteArray := ⟨#[112, 114, 105, 99, 101]⟩
abbrev sTag : ByteArray := ⟨#[116, 97, 103]⟩
def sAz : List At := [⟨sPrice, 1, 0, 99⟩, ⟨sTag, 2, 0, 0⟩]
theorem price_ok : NameOk sPrice := ⟨by decide, by decide, by decide +kernel, by decide +kernel, by decide +kernel⟩
theorem tag_ok : NameOk sTag := ⟨by decide, by decide, by decide +kernel, by decide +kernel, by decide +kernel⟩
theorem price_ne_tag : sPrice ≠ sTag := fun h => by
  have : sPrice.data.size = sTag.data.size := by rw [h]
  simp at this
theorem sAz_ok : SchemaOk sAz := by
  refine ⟨by decide, by decide, fun i hi => ?_⟩
  have hi : i < 2 := hi
  rcases (show i = 0 ∨ i = 1 by omega) with rfl | rfl
  · exact ⟨⟨price_ok, .inl ⟨rfl, by decide, by decide, by decide⟩⟩, fun j hj => by omega⟩
  · refine ⟨⟨tag_ok, .inr ⟨rfl, rfl, rfl⟩⟩, fun j hj => ?_⟩
    obtain rfl : j = 0 := by omega
    exact price_ne_tag
theorem s_price : FindAt sAz sPrice 0 := ⟨by decide, rfl, fun j hj => by omega⟩
theorem s_tag : FindAt sAz sTag 1 := by
  refine ⟨by decide, rfl, fun j hj => ?_⟩
  obtain rfl : j = 0 := by omega
  exact price_ne_tag
theorem s_filter1 {p : Pd} {k : Nat} (h : FindAt sAz p.name k) : FilterOk sAz [p] ↔ PredOk (sAz.getD k at0) p := by
  constructor
  · intro hh
    obtain ⟨_, l, h1, h2⟩ := hh.2.2 0 (by simp)
    have h1 : FindAt sAz p.name l := h1
    rw [h.uniq h1]; exact h2
  · intro hh
    refine ⟨by simp, by simp, fun i hi => ?_⟩
    obtain rfl : i = 0 := by simp at hi; omega
    exact ⟨fun j hj => by omega, k, h, hh⟩
theorem s_match1 {p : Pd} {k : Nat} {vs : List Vl} {n : Nat} (h : FindAt sAz p.name k) : MatchOk sAz [p] vs n ↔ PredOk (sAz.getD k at0) p ∧ EventOk sAz vs n ∧ Takes p (vs.getD k vl0) := by
  constructor
  · intro hh
    obtain ⟨l, h1, h2⟩ := hh.2.2 0 (by simp)
    have h1 : FindAt sAz p.name l := h1
    exact ⟨(s_filter1 h).mp hh.1, hh.2.1, by rw [h.uniq h1]; exact h2⟩
  · intro hh
    refine ⟨(s_filter1 h).mpr hh.1, hh.2.1, fun i hi => ?_⟩
    obtain rfl : i = 0 := by simp at hi; omega
    exact ⟨k, h, hh.2.2⟩
theorem s_event {n : Int} {t : ByteArray} (h0 : 0 ≤ n) (h1 : n ≤ 99) (ht : StrOk t) : EventOk sAz [⟨n, ByteArray.empty⟩, ⟨0, t⟩] 0 := by
  refine ⟨rfl, by decide, fun i hi => ?_⟩
  have hi : i < 2 := hi
  rcases (show i = 0 ∨ i = 1 by omega) with rfl | rfl
  · exact .inl ⟨rfl, h0, h1, rfl⟩
  · exact .inr ⟨rfl, ht, rfl⟩
theorem s_range {lo hi n : Int} {t : ByteArray} (h0 : 0 ≤ n) (h1 : n ≤ 99) (ht : StrOk t) (l0 : 0 ≤ lo) (l1 : lo ≤ hi) (l2 : hi ≤ 99) : MatchOk sAz [⟨sPrice, 1, lo, hi, ByteArray.empty⟩] [⟨n, ByteArray.empty⟩, ⟨0, t⟩] 0 ↔ (lo ≤ n ∧ n ≤ hi) := by
  rw [s_match1 (k := 0) s_price]
  exact ⟨fun h => takes_1.mp h.2.2, fun h => ⟨.inl ⟨rfl, rfl, l0, l1, l2, rfl⟩, s_event h0 h1 ht, takes_1.mpr h⟩⟩
theorem s_eq {n : Int} {t u : ByteArray} (h0 : 0 ≤ n) (h1 : n ≤ 99) (ht : StrOk t) (hu : StrOk u) : MatchOk sAz [⟨sTag, 2, 0, 0, t⟩] [⟨n, ByteArray.empty⟩, ⟨0, u⟩] 0 ↔ u = t := by
  rw [s_match1 (k := 1) s_tag]
  exact ⟨fun h => takes_2.mp h.2.2, fun h => ⟨.inr ⟨.inl rfl, rfl, ht, rfl, rfl⟩, s_event h0 h1 hu, takes_2.mpr h⟩⟩
theorem s_pre {n : Int} {t u : ByteArray} (h0 : 0 ≤ n) (h1 : n ≤ 99) (ht : StrOk t) (hu : StrOk u) (hne : t ≠ ByteArray.empty) : MatchOk sAz [⟨sTag, 3, 0, 0, t⟩] [⟨n, ByteArray.empty⟩, ⟨0, u⟩] 0 ↔ t.data.toList <+: u.data.toList := by
  rw [s_match1 (k := 1) s_tag]
  exact ⟨fun h => (takes_3 (by decide) (by decide)).mp h.2.2, fun h => ⟨.inr ⟨.inr ⟨rfl, hne⟩, rfl, ht, rfl, rfl⟩, s_event h0 h1 hu, (takes_3 (by decide) (by decide)).mpr h⟩⟩

theorem new_at {w : World} {o : Obj} {b : Nat} (hb : b = w.heap.size) : (w.alloc o).heap[b]? = some o := by rw [hb]; exact heap_alloc_new w o
theorem cell_at {w : World} {vs : Array Value} {t : TypeId} {b j : Nat} (hb : b = w.heap.size) (hj : j < vs.size) : (w.alloc (.cells vs t)).cell? ⟨b, j, none⟩ = some vs[j] := blk_cell (new_at hb) hj
theorem one_pd (w : World) (p : Pd) (b : Nat) (hb : b = w.heap.size) : PdIn (w.alloc (.cells #[.string p.name, .int .i64 p.op, .int .i64 p.lo, .int .i64 p.hi, .string p.str] 134)) (.slice (some ⟨b, 0, none⟩) 1 1) [p] :=
  PdIn.ofBlock [p] rfl (new_at hb) (by simp)
theorem two_vl (w : World) (p q : Vl) (b : Nat) (hb : b = w.heap.size) : VlIn (w.alloc (.cells #[.int .i64 p.num, .string p.str, .int .i64 q.num, .string q.str] 77)) (.slice (some ⟨b, 0, none⟩) 2 2) [p, q] :=
  VlIn.ofBlock [p, q] rfl (new_at hb) (by simp)
theorem sz_pd {p : Pd} (h : p.str.size ≤ maxLen) : ∀ i, i < [p].length → ([p].getD i pd0).str.size ≤ maxLen := fun i hi => by
  obtain rfl : i = 0 := by simp at hi; omega
  exact h
theorem sz_vl {n : Int} {t : ByteArray} (h : t.size ≤ maxLen) : ∀ i, i < [(⟨n, ByteArray.empty⟩ : Vl), ⟨0, t⟩].length → ([(⟨n, ByteArray.empty⟩ : Vl), ⟨0, t⟩].getD i vl0).str.size ≤ maxLen := fun i hi => by
  have hi : i < 2 := hi
  rcases (show i = 0 ∨ i = 1 by omega) with rfl | rfl
  · exact Nat.zero_le _
  · exact h

/-- An event of a number and a text lies in a box of its own. -/
structure EvAt (w : World) (b g : Nat) (n : Int) (t : ByteArray) : Prop where
  c0 : w.cell? ⟨b, 0, none⟩ = some (.slice (some ⟨g, 0, none⟩) 2 2)
  c1 : w.cell? ⟨b, 1, none⟩ = some (.string ⟨#[]⟩)
  lt : b < w.heap.size
  vl : VlIn w (.slice (some ⟨g, 0, none⟩) 2 2) [⟨n, ByteArray.empty⟩, ⟨0, t⟩]
theorem EvAt.below {w w' : World} {b g : Nat} {n : Int} {t : ByteArray} (h : EvAt w b g n t) (hb : Below w.heap.size w w') : EvAt w' b g n t :=
  ⟨cell_grown h.c0 hb, cell_grown h.c1 hb, Nat.lt_of_lt_of_le h.lt hb.size, h.vl.below hb⟩
theorem EvAt.new (w : World) (n : Int) (t : ByteArray) : EvAt ((w.alloc (.cells #[.int .i64 n, .string ⟨#[]⟩, .int .i64 0, .string t] 77)).alloc (.cells #[.slice (some ⟨w.heap.size, 0, none⟩) 2 2, .string ⟨#[]⟩] 27)) (w.heap.size + 1) w.heap.size n t :=
  ⟨cell_at (j := 0) (by simp) (by simp), cell_at (j := 1) (by simp) (by simp), by simp, (two_vl w ⟨n, ByteArray.empty⟩ ⟨0, t⟩ _ rfl).below (below1 _ _)⟩

def kAbc : ByteArray := ⟨#[97, 98, 99]⟩
def kB : ByteArray := ⟨#[98]⟩
def kA : ByteArray := ⟨#[97]⟩
def kPs : List Pd := [⟨sPrice, 1, 3, 9, ByteArray.empty⟩, ⟨sTag, 3, 0, 0, kA⟩]
theorem kA_ok : StrOk kA := ⟨by decide +kernel, by decide⟩
theorem kB_ok : StrOk kB := ⟨by decide +kernel, by decide⟩
theorem kAbc_ok : StrOk kAbc := ⟨by decide +kernel, by decide⟩
theorem kA_ne : kA ≠ ByteArray.empty := fun h => by
  have : kA.data.size = ByteArray.empty.data.size := by rw [h]
  simp [kA] at this
theorem kPs_ok : FilterOk sAz kPs := by
  refine ⟨by decide, by decide, fun i hi => ?_⟩
  have hi : i < 2 := hi
  rcases (show i = 0 ∨ i = 1 by omega) with rfl | rfl
  · exact ⟨fun j hj => by omega, 0, s_price, .inl ⟨rfl, rfl, by decide, by decide, by decide, rfl⟩⟩
  · refine ⟨fun j hj => ?_, 1, s_tag, .inr ⟨.inr ⟨rfl, kA_ne⟩, rfl, kA_ok, rfl, rfl⟩⟩
    obtain rfl : j = 0 := by omega
    exact price_ne_tag
theorem k_yes : MatchOk sAz kPs [⟨5, ByteArray.empty⟩, ⟨0, kAbc⟩] 0 := by
  refine ⟨kPs_ok, s_event (by decide) (by decide) kAbc_ok, fun i hi => ?_⟩
  have hi : i < 2 := hi
  rcases (show i = 0 ∨ i = 1 by omega) with rfl | rfl
  · exact ⟨0, s_price, takes_1.mpr ⟨by decide, by decide⟩⟩
  · exact ⟨1, s_tag, (takes_3 (by decide) (by decide)).mpr ⟨[98, 99], rfl⟩⟩
theorem k_no : ¬ MatchOk sAz kPs [⟨5, ByteArray.empty⟩, ⟨0, kB⟩] 0 := fun h => by
  obtain ⟨l, h1, h2⟩ := h.2.2 1 (by decide)
  have h1 : FindAt sAz sTag l := h1
  rw [← s_tag.uniq h1] at h2
  have h3 : kA.data.toList <+: kB.data.toList := (takes_3 (by decide) (by decide)).mp h2
  obtain ⟨t, ht⟩ := h3
  simp [kA, kB] at ht

end Go.Proofs.YtkncpojijfeahaaGreatDoor

/- A slice of one-cell elements that the call itself made, appended to out of whatever source (a slice, a string): where what comes of it lies: in the row that was there, or in a new block. No program in sight. -/
namespace Go.Proofs.YtkncpojijfeahaaGreatDoor
open Go.RowKit

section
variable {P : Program} (w : World)

theorem room_src (t tx ty e : TypeId) (i : TypeInfo) (ht : P.underlying t = some (.slice e)) (hi : P.info? e = some i)
    (g n cap : Nat) (cur : Array Value) (hg : w.heap[g]? = some (.cells cur e (0, 0))) (x : Value) (m : Nat) (news : List Value) (hs : Src P i.size tx x m news w)
    (hroom : n + m ≤ cap) (hfit : n * i.size + news.length ≤ cur.size) :
    (Builtin.append_ #[t, tx] ty #[.slice (some ⟨g, 0, none⟩) n cap, x]).run P w =
      .ok (.slice (some ⟨g, 0, none⟩) (n + m) cap) (w.setRow g (cur.toList.take (n * i.size) ++ news ++ cur.toList.drop (n * i.size + news.length)).toArray) := by
  have hst := run_storeCells_at P g (n * i.size) e news 0 cur w hg (by simpa using hfit) hs.one
  simp only [Nat.add_zero] at hst
  rcases hs.kind with ⟨e', hk⟩ | hk <;> simp [Builtin.append_, run_underlying ht, run_underlying hk, sizeOf, typeInfo, hi, hs.len, hroom, hs.cells, Addr.add_lit, hst]

/-- What an append to an own row leaves. -/
structure Appended (base : Nat) (e : TypeId) (w w' : World) (v v' : Value) (n : Nat) (xs : List Value) : Prop where
  row : w'.ownsRow base e 1 v' n xs
  grown : w.grownBy w' v.ownBlock
  new : ∀ k, v'.ownBlock = some k → v.ownBlock = some k ∨ w.heap.size ≤ k
  shape : ∃ a c, v' = .slice a n c

theorem own_append (base : Nat) (t tx ty e : TypeId) (i : TypeInfo) (z : Value) (bytes : Nat) (ht : P.underlying t = some (.slice e)) (hi : P.info? e = some i) (hz : i.zero = some z)
    (hsize : i.size = 1) (hby : i.bytes = bytes) (hzs : z.cells.size = 1)
    (v : Value) (n : Nat) (xs : List Value) (hown : w.ownsRow base e 1 v n xs) (x : Value) (m : Nat) (news : List Value) (hs : Src P 1 tx x m news w)
    (h63 : n + m ≤ maxLen) (hbytes : (n + m) * bytes ≤ 140737488355328) (hbase : base ≤ w.heap.size) :
    ∃ v' w', (Builtin.append_ #[t, tx] ty #[v, x]).run P w = .ok v' w' ∧ Appended base e w w' v v' (n + m) (xs ++ news) := by
  rw [← hsize] at hs
  subst hby
  have hsmall : n + m ≤ 9223372036854775807 := by simp only [maxLen] at h63; omega
  have hnl : news.length = m := by have := hs.newsLen; rw [hsize] at this; omega
  have hxl : xs.length = n := by have := hown.1; omega
  have hlen : (xs ++ news).length = (n + m) * 1 := by rw [List.length_append, hxl, hnl]; omega
  have grown : ∀ (old : Nat), old < n + m →
      (w.drew.alloc (.cells ((xs ++ news).toArray ++ Builtin.zeroCells z.cells (grownCap w (n + m) old e - (n + m))) e)).ownsRow base e 1
        (.slice (some ⟨w.heap.size, 0, none⟩) (n + m) (grownCap w (n + m) old e)) (n + m) (xs ++ news) ∧
      ∀ row, w.grownBy (w.drew.alloc (.cells ((xs ++ news).toArray ++ Builtin.zeroCells z.cells (grownCap w (n + m) old e - (n + m))) e)) row := by
    intro old ho
    have hge := grownCap_ge w (n + m) old e
    have hcm : grownCap w (n + m) old e ≤ maxLen := grownCap_le_maxLen w (n + m) old e h63
    refine ⟨⟨hlen, .inr ⟨w.heap.size, _, _, rfl, hbase, heap_alloc_new w.drew _, hge, hcm, ?_, ?_⟩⟩, fun row => ⟨rfl, rfl, rfl, by simp, fun k hk _ => Below.heap_alloc w.drew _ k hk⟩⟩
    · simp only [Array.size_append, List.size_toArray, size_zeroCells, hzs, hlen]; omega
    · rw [Array.toList_append, List.toList_toArray, ← hlen]; exact List.take_left
  rcases hown.2 with ⟨rfl, rfl⟩ | ⟨g, cap, cur, rfl, hbg, hg, hnc, hcm, hcs, htake⟩
  · have hx : xs = [] := List.eq_nil_of_length_eq_zero hxl
    subst hx
    by_cases hm : m = 0
    · subst hm
      have hn : news = [] := List.eq_nil_of_length_eq_zero hnl
      subst hn
      exact ⟨.slice none 0 0, w, run_append_nothing w t tx ty e i ht hi none 0 0 (Nat.le_refl _) x hs, World.ownsRow_nil w base e 1, ⟨rfl, rfl, rfl, Nat.le_refl _, fun _ _ _ => rfl⟩, fun k hk => .inl hk, ⟨none, 0, rfl⟩⟩
    · have hr := run_append_grow_src (P := P) w t tx ty e i z ht hi hz none 0 0 [] (run_firstCells_none _ _ _ _ _) x m news hs (by omega) (by omega) (growslice_fits (by omega) hbytes)
      have hgr := grown 0 (by omega)
      exact ⟨_, _, hr, hgr.1, hgr.2 _, fun k hk => .inr (by simp [Value.ownBlock] at hk; omega), ⟨_, _, rfl⟩⟩
  · by_cases hroom : n + m ≤ cap
    · have hfit : n * i.size + news.length ≤ cur.size := by rw [hnl, hcs, hsize]; omega
      have hr := room_src (P := P) w t tx ty e i ht hi g n cap cur hg x m news hs hroom hfit
      refine ⟨_, _, hr, ⟨hlen, .inr ⟨g, cap, _, rfl, hbg, setRow_heap w g cur _ e _ hg, hroom, hcm, ?_, ?_⟩⟩, ⟨rfl, rfl, rfl, by simp, fun k _ hk => setRow_other w g k _ (fun e => hk (by simp [Value.ownBlock, e]))⟩, fun k hk => .inl hk, ⟨_, _, rfl⟩⟩
      · simp only [List.size_toArray, List.length_append, List.length_take, List.length_drop, Array.length_toList]
        omega
      · rw [hsize, htake, ← hlen]
        exact List.take_left
    · have holds : ∀ j u, xs[j]? = some u → w.cell? ((⟨g, 0, none⟩ : Addr).add j) = some u := hown.cells (g := g) rfl
      have hf := run_firstCells_some (P := P) w.drew i.size n ⟨g, 0, none⟩ n cap xs (by rw [hsize]; omega) (by simpa using holds)
      have hr := run_append_grow_src (P := P) w t tx ty e i z ht hi hz (some ⟨g, 0, none⟩) n cap xs hf x m news hs (by omega) (by omega) (growslice_fits (by omega) hbytes)
      have hgr := grown cap (by omega)
      exact ⟨_, _, hr, hgr.1, hgr.2 _, fun k hk => .inr (by simp [Value.ownBlock] at hk; omega), ⟨_, _, rfl⟩⟩

theorem wpList_own_append {ops : Array Oper} {rest : List Oper} {o : Oper} {a : Act} {Q : Exit → Act → World → Prop} (hgd : o.guard = none) (s x : Operand) (t tx : TypeId)
    (ho : o.op = .call { callee := .builtin .append, args := #[s, x], argTypes := #[t, tx] })
    (base : Nat) (e : TypeId) (i : TypeInfo) (z : Value) (bytes : Nat) (ht : P.underlying t = some (.slice e)) (hi : P.info? e = some i) (hz : i.zero = some z)
    (hsize : i.size = 1) (hby : i.bytes = bytes) (hzs : z.cells.size = 1)
    (v : Value) (n : Nat) (xs : List Value) (hv : a.eval s = v) (hown : w.ownsRow base e 1 v n xs) (xv : Value) (m : Nat) (news : List Value) (hx : a.eval x = xv) (hs : Src P 1 tx xv m news w)
    (h63 : n + m ≤ maxLen) (hbytes : (n + m) * bytes ≤ 140737488355328) (hbase : base ≤ w.heap.size)
    (hK : ∀ v' w', Appended base e w w' v v' (n + m) (xs ++ news) → wpList P ops Q rest (a.put o.dst v') w') : wpList P ops Q (o :: rest) a w := by
  refine wpList_plain hgd fun K hK' => ?_
  obtain ⟨v', w', hrun, r'⟩ := own_append (P := P) w base t tx o.type e i z bytes ht hi hz hsize hby hzs v n xs hown xv m news hs h63 hbytes hbase
  unfold Oper.wp
  simp [execOp, ho, resolve, invoke, builtin, hv, hx, hrun, Result.andThen]
  exact hK' _ _ (hK v' w' r')

end
end Go.Proofs.YtkncpojijfeahaaGreatDoor

/- A slice of elements of two cells that the call itself made, appended to out of whatever source (a slice, a string): where what comes of it lies: in the row that was there, or in a new block. No program in sight. -/
namespace Go.Proofs.YtkncpojijfeahaaGreatDoor
open Go.RowKit

section
variable {P : Program} (w : World)

/-- What an append to an own row leaves. -/
structure Appended2 (base : Nat) (e : TypeId) (w w' : World) (v v' : Value) (n : Nat) (xs : List Value) : Prop where
  row : w'.ownsRow base e 2 v' n xs
  grown : w.grownBy w' v.ownBlock
  new : ∀ k, v'.ownBlock = some k → v.ownBlock = some k ∨ w.heap.size ≤ k
  shape : ∃ a c, v' = .slice a n c

theorem own_append2 (base : Nat) (t tx ty e : TypeId) (i : TypeInfo) (z : Value) (bytes : Nat) (ht : P.underlying t = some (.slice e)) (hi : P.info? e = some i) (hz : i.zero = some z)
    (hsize : i.size = 2) (hby : i.bytes = bytes) (hzs : z.cells.size = 2)
    (v : Value) (n : Nat) (xs : List Value) (hown : w.ownsRow base e 2 v n xs) (x : Value) (m : Nat) (news : List Value) (hs : Src P 2 tx x m news w)
    (h63 : n + m ≤ maxLen) (hbytes : (n + m) * bytes ≤ 140737488355328) (hbase : base ≤ w.heap.size) :
    ∃ v' w', (Builtin.append_ #[t, tx] ty #[v, x]).run P w = .ok v' w' ∧ Appended2 base e w w' v v' (n + m) (xs ++ news) := by
  rw [← hsize] at hs
  subst hby
  have hsmall : n + m ≤ 9223372036854775807 := by simp only [maxLen] at h63; omega
  have hnl : news.length = m * 2 := by have := hs.newsLen; rw [hsize] at this; exact this
  have hxl : xs.length = n * 2 := hown.1
  have hlen : (xs ++ news).length = (n + m) * 2 := by rw [List.length_append, hxl, hnl]; omega
  have grown : ∀ (old : Nat), old < n + m →
      (w.drew.alloc (.cells ((xs ++ news).toArray ++ Builtin.zeroCells z.cells (grownCap w (n + m) old e - (n + m))) e)).ownsRow base e 2
        (.slice (some ⟨w.heap.size, 0, none⟩) (n + m) (grownCap w (n + m) old e)) (n + m) (xs ++ news) ∧
      ∀ row, w.grownBy (w.drew.alloc (.cells ((xs ++ news).toArray ++ Builtin.zeroCells z.cells (grownCap w (n + m) old e - (n + m))) e)) row := by
    intro old ho
    have hge := grownCap_ge w (n + m) old e
    have hcm : grownCap w (n + m) old e ≤ maxLen := grownCap_le_maxLen w (n + m) old e h63
    refine ⟨⟨hlen, .inr ⟨w.heap.size, _, _, rfl, hbase, heap_alloc_new w.drew _, hge, hcm, ?_, ?_⟩⟩, fun row => ⟨rfl, rfl, rfl, by simp, fun k hk _ => Below.heap_alloc w.drew _ k hk⟩⟩
    · simp only [Array.size_append, List.size_toArray, size_zeroCells, hzs, hlen]; omega
    · rw [Array.toList_append, List.toList_toArray, ← hlen]; exact List.take_left
  rcases hown.2 with ⟨rfl, rfl⟩ | ⟨g, cap, cur, rfl, hbg, hg, hnc, hcm, hcs, htake⟩
  · have hx : xs = [] := List.eq_nil_of_length_eq_zero (by omega)
    subst hx
    by_cases hm : m = 0
    · subst hm
      have hn : news = [] := List.eq_nil_of_length_eq_zero (by omega)
      subst hn
      exact ⟨.slice none 0 0, w, run_append_nothing w t tx ty e i ht hi none 0 0 (Nat.le_refl _) x hs, World.ownsRow_nil w base e 2, ⟨rfl, rfl, rfl, Nat.le_refl _, fun _ _ _ => rfl⟩, fun k hk => .inl hk, ⟨none, 0, rfl⟩⟩
    · have hr := run_append_grow_src (P := P) w t tx ty e i z ht hi hz none 0 0 [] (run_firstCells_none _ _ _ _ _) x m news hs (by omega) (by omega) (growslice_fits (by omega) hbytes)
      have hgr := grown 0 (by omega)
      exact ⟨_, _, hr, hgr.1, hgr.2 _, fun k hk => .inr (by simp [Value.ownBlock] at hk; omega), ⟨_, _, rfl⟩⟩
  · by_cases hroom : n + m ≤ cap
    · have hfit : n * i.size + news.length ≤ cur.size := by rw [hnl, hcs, hsize]; omega
      have hr := room_src (P := P) w t tx ty e i ht hi g n cap cur hg x m news hs hroom hfit
      refine ⟨_, _, hr, ⟨hlen, .inr ⟨g, cap, _, rfl, hbg, setRow_heap w g cur _ e _ hg, hroom, hcm, ?_, ?_⟩⟩, ⟨rfl, rfl, rfl, by simp, fun k _ hk => setRow_other w g k _ (fun e => hk (by simp [Value.ownBlock, e]))⟩, fun k hk => .inl hk, ⟨_, _, rfl⟩⟩
      · simp only [List.size_toArray, List.length_append, List.length_take, List.length_drop, Array.length_toList]
        omega
      · rw [hsize, htake, ← hlen]
        exact List.take_left
    · have holds : ∀ j u, xs[j]? = some u → w.cell? ((⟨g, 0, none⟩ : Addr).add j) = some u := hown.cells (g := g) rfl
      have hf := run_firstCells_some (P := P) w.drew i.size n ⟨g, 0, none⟩ n cap xs (by rw [hsize]; omega) (by simpa using holds)
      have hr := run_append_grow_src (P := P) w t tx ty e i z ht hi hz (some ⟨g, 0, none⟩) n cap xs hf x m news hs (by omega) (by omega) (growslice_fits (by omega) hbytes)
      have hgr := grown cap (by omega)
      exact ⟨_, _, hr, hgr.1, hgr.2 _, fun k hk => .inr (by simp [Value.ownBlock] at hk; omega), ⟨_, _, rfl⟩⟩

theorem wpList_own_append2 {ops : Array Oper} {rest : List Oper} {o : Oper} {a : Act} {Q : Exit → Act → World → Prop} (hgd : o.guard = none) (s x : Operand) (t tx : TypeId)
    (ho : o.op = .call { callee := .builtin .append, args := #[s, x], argTypes := #[t, tx] })
    (base : Nat) (e : TypeId) (i : TypeInfo) (z : Value) (bytes : Nat) (ht : P.underlying t = some (.slice e)) (hi : P.info? e = some i) (hz : i.zero = some z)
    (hsize : i.size = 2) (hby : i.bytes = bytes) (hzs : z.cells.size = 2)
    (v : Value) (n : Nat) (xs : List Value) (hv : a.eval s = v) (hown : w.ownsRow base e 2 v n xs) (xv : Value) (m : Nat) (news : List Value) (hx : a.eval x = xv) (hs : Src P 2 tx xv m news w)
    (h63 : n + m ≤ maxLen) (hbytes : (n + m) * bytes ≤ 140737488355328) (hbase : base ≤ w.heap.size)
    (hK : ∀ v' w', Appended2 base e w w' v v' (n + m) (xs ++ news) → wpList P ops Q rest (a.put o.dst v') w') : wpList P ops Q (o :: rest) a w := by
  refine wpList_plain hgd fun K hK' => ?_
  obtain ⟨v', w', hrun, r'⟩ := own_append2 (P := P) w base t tx o.type e i z bytes ht hi hz hsize hby hzs v n xs hown xv m news hs h63 hbytes hbase
  unfold Oper.wp
  simp [execOp, ho, resolve, invoke, builtin, hv, hx, hrun, Result.andThen]
  exact hK' _ _ (hK v' w' r')

end
end Go.Proofs.YtkncpojijfeahaaGreatDoor

/- A slice of elements of four cells that the call itself made, appended to out of whatever source (a slice, a string): where what comes of it lies: in the row that was there, or in a new block. No program in sight. -/
namespace Go.Proofs.YtkncpojijfeahaaGreatDoor
open Go.RowKit

section
variable {P : Program} (w : World)

/-- What an append to an own row leaves. -/
structure Appended4 (base : Nat) (e : TypeId) (w w' : World) (v v' : Value) (n : Nat) (xs : List Value) : Prop where
  row : w'.ownsRow base e 4 v' n xs
  grown : w.grownBy w' v.ownBlock
  new : ∀ k, v'.ownBlock = some k → v.ownBlock = some k ∨ w.heap.size ≤ k
  shape : ∃ a c, v' = .slice a n c

theorem own_append4 (base : Nat) (t tx ty e : TypeId) (i : TypeInfo) (z : Value) (bytes : Nat) (ht : P.underlying t = some (.slice e)) (hi : P.info? e = some i) (hz : i.zero = some z)
    (hsize : i.size = 4) (hby : i.bytes = bytes) (hzs : z.cells.size = 4)
    (v : Value) (n : Nat) (xs : List Value) (hown : w.ownsRow base e 4 v n xs) (x : Value) (m : Nat) (news : List Value) (hs : Src P 4 tx x m news w)
    (h63 : n + m ≤ maxLen) (hbytes : (n + m) * bytes ≤ 140737488355328) (hbase : base ≤ w.heap.size) :
    ∃ v' w', (Builtin.append_ #[t, tx] ty #[v, x]).run P w = .ok v' w' ∧ Appended4 base e w w' v v' (n + m) (xs ++ news) := by
  rw [← hsize] at hs
  subst hby
  have hsmall : n + m ≤ 9223372036854775807 := by simp only [maxLen] at h63; omega
  have hnl : news.length = m * 4 := by have := hs.newsLen; rw [hsize] at this; exact this
  have hxl : xs.length = n * 4 := hown.1
  have hlen : (xs ++ news).length = (n + m) * 4 := by rw [List.length_append, hxl, hnl]; omega
  have grown : ∀ (old : Nat), old < n + m →
      (w.drew.alloc (.cells ((xs ++ news).toArray ++ Builtin.zeroCells z.cells (grownCap w (n + m) old e - (n + m))) e)).ownsRow base e 4
        (.slice (some ⟨w.heap.size, 0, none⟩) (n + m) (grownCap w (n + m) old e)) (n + m) (xs ++ news) ∧
      ∀ row, w.grownBy (w.drew.alloc (.cells ((xs ++ news).toArray ++ Builtin.zeroCells z.cells (grownCap w (n + m) old e - (n + m))) e)) row := by
    intro old ho
    have hge := grownCap_ge w (n + m) old e
    have hcm : grownCap w (n + m) old e ≤ maxLen := grownCap_le_maxLen w (n + m) old e h63
    refine ⟨⟨hlen, .inr ⟨w.heap.size, _, _, rfl, hbase, heap_alloc_new w.drew _, hge, hcm, ?_, ?_⟩⟩, fun row => ⟨rfl, rfl, rfl, by simp, fun k hk _ => Below.heap_alloc w.drew _ k hk⟩⟩
    · simp only [Array.size_append, List.size_toArray, size_zeroCells, hzs, hlen]; omega
    · rw [Array.toList_append, List.toList_toArray, ← hlen]; exact List.take_left
  rcases hown.2 with ⟨rfl, rfl⟩ | ⟨g, cap, cur, rfl, hbg, hg, hnc, hcm, hcs, htake⟩
  · have hx : xs = [] := List.eq_nil_of_length_eq_zero (by omega)
    subst hx
    by_cases hm : m = 0
    · subst hm
      have hn : news = [] := List.eq_nil_of_length_eq_zero (by omega)
      subst hn
      exact ⟨.slice none 0 0, w, run_append_nothing w t tx ty e i ht hi none 0 0 (Nat.le_refl _) x hs, World.ownsRow_nil w base e 4, ⟨rfl, rfl, rfl, Nat.le_refl _, fun _ _ _ => rfl⟩, fun k hk => .inl hk, ⟨none, 0, rfl⟩⟩
    · have hr := run_append_grow_src (P := P) w t tx ty e i z ht hi hz none 0 0 [] (run_firstCells_none _ _ _ _ _) x m news hs (by omega) (by omega) (growslice_fits (by omega) hbytes)
      have hgr := grown 0 (by omega)
      exact ⟨_, _, hr, hgr.1, hgr.2 _, fun k hk => .inr (by simp [Value.ownBlock] at hk; omega), ⟨_, _, rfl⟩⟩
  · by_cases hroom : n + m ≤ cap
    · have hfit : n * i.size + news.length ≤ cur.size := by rw [hnl, hcs, hsize]; omega
      have hr := room_src (P := P) w t tx ty e i ht hi g n cap cur hg x m news hs hroom hfit
      refine ⟨_, _, hr, ⟨hlen, .inr ⟨g, cap, _, rfl, hbg, setRow_heap w g cur _ e _ hg, hroom, hcm, ?_, ?_⟩⟩, ⟨rfl, rfl, rfl, by simp, fun k _ hk => setRow_other w g k _ (fun e => hk (by simp [Value.ownBlock, e]))⟩, fun k hk => .inl hk, ⟨_, _, rfl⟩⟩
      · simp only [List.size_toArray, List.length_append, List.length_take, List.length_drop, Array.length_toList]
        omega
      · rw [hsize, htake, ← hlen]
        exact List.take_left
    · have holds : ∀ j u, xs[j]? = some u → w.cell? ((⟨g, 0, none⟩ : Addr).add j) = some u := hown.cells (g := g) rfl
      have hf := run_firstCells_some (P := P) w.drew i.size n ⟨g, 0, none⟩ n cap xs (by rw [hsize]; omega) (by simpa using holds)
      have hr := run_append_grow_src (P := P) w t tx ty e i z ht hi hz (some ⟨g, 0, none⟩) n cap xs hf x m news hs (by omega) (by omega) (growslice_fits (by omega) hbytes)
      have hgr := grown cap (by omega)
      exact ⟨_, _, hr, hgr.1, hgr.2 _, fun k hk => .inr (by simp [Value.ownBlock] at hk; omega), ⟨_, _, rfl⟩⟩

theorem wpList_own_append4 {ops : Array Oper} {rest : List Oper} {o : Oper} {a : Act} {Q : Exit → Act → World → Prop} (hgd : o.guard = none) (s x : Operand) (t tx : TypeId)
    (ho : o.op = .call { callee := .builtin .append, args := #[s, x], argTypes := #[t, tx] })
    (base : Nat) (e : TypeId) (i : TypeInfo) (z : Value) (bytes : Nat) (ht : P.underlying t = some (.slice e)) (hi : P.info? e = some i) (hz : i.zero = some z)
    (hsize : i.size = 4) (hby : i.bytes = bytes) (hzs : z.cells.size = 4)
    (v : Value) (n : Nat) (xs : List Value) (hv : a.eval s = v) (hown : w.ownsRow base e 4 v n xs) (xv : Value) (m : Nat) (news : List Value) (hx : a.eval x = xv) (hs : Src P 4 tx xv m news w)
    (h63 : n + m ≤ maxLen) (hbytes : (n + m) * bytes ≤ 140737488355328) (hbase : base ≤ w.heap.size)
    (hK : ∀ v' w', Appended4 base e w w' v v' (n + m) (xs ++ news) → wpList P ops Q rest (a.put o.dst v') w') : wpList P ops Q (o :: rest) a w := by
  refine wpList_plain hgd fun K hK' => ?_
  obtain ⟨v', w', hrun, r'⟩ := own_append4 (P := P) w base t tx o.type e i z bytes ht hi hz hsize hby hzs v n xs hown xv m news hs h63 hbytes hbase
  unfold Oper.wp
  simp [execOp, ho, resolve, invoke, builtin, hv, hx, hrun, Result.andThen]
  exact hK' _ _ (hK v' w' r')

end
end Go.Proofs.YtkncpojijfeahaaGreatDoor

/- A slice of elements of five cells that the call itself made, appended to out of whatever source (a slice, a string): where what comes of it lies: in the row that was there, or in a new block. No program in sight. -/
namespace Go.Proofs.YtkncpojijfeahaaGreatDoor
open Go.RowKit

section
variable {P : Program} (w : World)

/-- What an append to an own row leaves. -/
structure Appended5 (base : Nat) (e : TypeId) (w w' : World) (v v' : Value) (n : Nat) (xs : List Value) : Prop where
  row : w'.ownsRow base e 5 v' n xs
  grown : w.grownBy w' v.ownBlock
  new : ∀ k, v'.ownBlock = some k → v.ownBlock = some k ∨ w.heap.size ≤ k
  shape : ∃ a c, v' = .slice a n c

theorem own_append5 (base : Nat) (t tx ty e : TypeId) (i : TypeInfo) (z : Value) (bytes : Nat) (ht : P.underlying t = some (.slice e)) (hi : P.info? e = some i) (hz : i.zero = some z)
    (hsize : i.size = 5) (hby : i.bytes = bytes) (hzs : z.cells.size = 5)
    (v : Value) (n : Nat) (xs : List Value) (hown : w.ownsRow base e 5 v n xs) (x : Value) (m : Nat) (news : List Value) (hs : Src P 5 tx x m news w)
    (h63 : n + m ≤ maxLen) (hbytes : (n + m) * bytes ≤ 140737488355328) (hbase : base ≤ w.heap.size) :
    ∃ v' w', (Builtin.append_ #[t, tx] ty #[v, x]).run P w = .ok v' w' ∧ Appended5 base e w w' v v' (n + m) (xs ++ news) := by
  rw [← hsize] at hs
  subst hby
  have hsmall : n + m ≤ 9223372036854775807 := by simp only [maxLen] at h63; omega
  have hnl : news.length = m * 5 := by have := hs.newsLen; rw [hsize] at this; exact this
  have hxl : xs.length = n * 5 := hown.1
  have hlen : (xs ++ news).length = (n + m) * 5 := by rw [List.length_append, hxl, hnl]; omega
  have grown : ∀ (old : Nat), old < n + m →
      (w.drew.alloc (.cells ((xs ++ news).toArray ++ Builtin.zeroCells z.cells (grownCap w (n + m) old e - (n + m))) e)).ownsRow base e 5
        (.slice (some ⟨w.heap.size, 0, none⟩) (n + m) (grownCap w (n + m) old e)) (n + m) (xs ++ news) ∧
      ∀ row, w.grownBy (w.drew.alloc (.cells ((xs ++ news).toArray ++ Builtin.zeroCells z.cells (grownCap w (n + m) old e - (n + m))) e)) row := by
    intro old ho
    have hge := grownCap_ge w (n + m) old e
    have hcm : grownCap w (n + m) old e ≤ maxLen := grownCap_le_maxLen w (n + m) old e h63
    refine ⟨⟨hlen, .inr ⟨w.heap.size, _, _, rfl, hbase, heap_alloc_new w.drew _, hge, hcm, ?_, ?_⟩⟩, fun row => ⟨rfl, rfl, rfl, by simp, fun k hk _ => Below.heap_alloc w.drew _ k hk⟩⟩
    · simp only [Array.size_append, List.size_toArray, size_zeroCells, hzs, hlen]; omega
    · rw [Array.toList_append, List.toList_toArray, ← hlen]; exact List.take_left
  rcases hown.2 with ⟨rfl, rfl⟩ | ⟨g, cap, cur, rfl, hbg, hg, hnc, hcm, hcs, htake⟩
  · have hx : xs = [] := List.eq_nil_of_length_eq_zero (by omega)
    subst hx
    by_cases hm : m = 0
    · subst hm
      have hn : news = [] := List.eq_nil_of_length_eq_zero (by omega)
      subst hn
      exact ⟨.slice none 0 0, w, run_append_nothing w t tx ty e i ht hi none 0 0 (Nat.le_refl _) x hs, World.ownsRow_nil w base e 5, ⟨rfl, rfl, rfl, Nat.le_refl _, fun _ _ _ => rfl⟩, fun k hk => .inl hk, ⟨none, 0, rfl⟩⟩
    · have hr := run_append_grow_src (P := P) w t tx ty e i z ht hi hz none 0 0 [] (run_firstCells_none _ _ _ _ _) x m news hs (by omega) (by omega) (growslice_fits (by omega) hbytes)
      have hgr := grown 0 (by omega)
      exact ⟨_, _, hr, hgr.1, hgr.2 _, fun k hk => .inr (by simp [Value.ownBlock] at hk; omega), ⟨_, _, rfl⟩⟩
  · by_cases hroom : n + m ≤ cap
    · have hfit : n * i.size + news.length ≤ cur.size := by rw [hnl, hcs, hsize]; omega
      have hr := room_src (P := P) w t tx ty e i ht hi g n cap cur hg x m news hs hroom hfit
      refine ⟨_, _, hr, ⟨hlen, .inr ⟨g, cap, _, rfl, hbg, setRow_heap w g cur _ e _ hg, hroom, hcm, ?_, ?_⟩⟩, ⟨rfl, rfl, rfl, by simp, fun k _ hk => setRow_other w g k _ (fun e => hk (by simp [Value.ownBlock, e]))⟩, fun k hk => .inl hk, ⟨_, _, rfl⟩⟩
      · simp only [List.size_toArray, List.length_append, List.length_take, List.length_drop, Array.length_toList]
        omega
      · rw [hsize, htake, ← hlen]
        exact List.take_left
    · have holds : ∀ j u, xs[j]? = some u → w.cell? ((⟨g, 0, none⟩ : Addr).add j) = some u := hown.cells (g := g) rfl
      have hf := run_firstCells_some (P := P) w.drew i.size n ⟨g, 0, none⟩ n cap xs (by rw [hsize]; omega) (by simpa using holds)
      have hr := run_append_grow_src (P := P) w t tx ty e i z ht hi hz (some ⟨g, 0, none⟩) n cap xs hf x m news hs (by omega) (by omega) (growslice_fits (by omega) hbytes)
      have hgr := grown cap (by omega)
      exact ⟨_, _, hr, hgr.1, hgr.2 _, fun k hk => .inr (by simp [Value.ownBlock] at hk; omega), ⟨_, _, rfl⟩⟩

theorem wpList_own_append5 {ops : Array Oper} {rest : List Oper} {o : Oper} {a : Act} {Q : Exit → Act → World → Prop} (hgd : o.guard = none) (s x : Operand) (t tx : TypeId)
    (ho : o.op = .call { callee := .builtin .append, args := #[s, x], argTypes := #[t, tx] })
    (base : Nat) (e : TypeId) (i : TypeInfo) (z : Value) (bytes : Nat) (ht : P.underlying t = some (.slice e)) (hi : P.info? e = some i) (hz : i.zero = some z)
    (hsize : i.size = 5) (hby : i.bytes = bytes) (hzs : z.cells.size = 5)
    (v : Value) (n : Nat) (xs : List Value) (hv : a.eval s = v) (hown : w.ownsRow base e 5 v n xs) (xv : Value) (m : Nat) (news : List Value) (hx : a.eval x = xv) (hs : Src P 5 tx xv m news w)
    (h63 : n + m ≤ maxLen) (hbytes : (n + m) * bytes ≤ 140737488355328) (hbase : base ≤ w.heap.size)
    (hK : ∀ v' w', Appended5 base e w w' v v' (n + m) (xs ++ news) → wpList P ops Q rest (a.put o.dst v') w') : wpList P ops Q (o :: rest) a w := by
  refine wpList_plain hgd fun K hK' => ?_
  obtain ⟨v', w', hrun, r'⟩ := own_append5 (P := P) w base t tx o.type e i z bytes ht hi hz hsize hby hzs v n xs hown xv m news hs h63 hbytes hbase
  unfold Oper.wp
  simp [execOp, ho, resolve, invoke, builtin, hv, hx, hrun, Result.andThen]
  exact hK' _ _ (hK v' w' r')

end
end Go.Proofs.YtkncpojijfeahaaGreatDoor

/- What wigwaglaw01.Cut answers: at most n bytes. -/
namespace Go.Proofs.YtkncpojijfeahaaGreatDoor
open Go.ChangeShapes Go.WideShapes Go.ChangeAt Go.RowKit
set_option linter.unusedVariables false

theorem cut_any (s : ByteArray) (n : Nat) (w : World) (hs : s.size ≤ maxLen) :
    Calls Tryz.prog 11 #[.string s, .int .i64 n] w fun e w' => e = .returned (.string (cut s n)) ∧ w' = w := by
  unfold maxLen at hs
  by_cases h : n < s.size
  · have H : Hid (cut s n = s.extract 0 n) := (if_pos h : cut s n = s.extract 0 n)
    go_enter Tryz.func11, Tryz.ntmps11
    go_wp2
    go_ret
    exact ⟨by rw [H.out]; rfl, rfl⟩
  · have H : Hid (cut s n = s) := (if_neg h : cut s n = s)
    go_enter Tryz.func11, Tryz.ntmps11
    go_wp2
    go_ret
    exact ⟨by rw [H.out]; rfl, rfl⟩
end Go.Proofs.YtkncpojijfeahaaGreatDoor

/- Schemas, events, filters that came in; rows of the call's own as schemas, events, filters. -/
namespace Go.Proofs.YtkncpojijfeahaaGreatDoor
open Go.ChangeShapes Go.WideShapes Go.ChangeAt Go.RowKit Go.Deep
set_option linter.unusedVariables false

def At.ok (t : At) : Prop := t.name.size ≤ 9223372036854775807 ∧ i64 t.kind ∧ i64 t.mn ∧ i64 t.mx
def Vl.ok (t : Vl) : Prop := i64 t.num ∧ t.str.size ≤ 9223372036854775807
def Pd.ok (t : Pd) : Prop := t.name.size ≤ 9223372036854775807 ∧ i64 t.op ∧ i64 t.lo ∧ i64 t.hi ∧ t.str.size ≤ 9223372036854775807
theorem cellsVl : Tryz.prog.cellsOf 77 = 2 := by kernel_rfl
theorem cellsPd : Tryz.prog.cellsOf 134 = 5 := by kernel_rfl
theorem cellsEv : Tryz.prog.cellsOf 27 = 2 := by kernel_rfl
theorem cellsVs : Tryz.prog.cellsOf 25 = 1 := by kernel_rfl
theorem cellsAt : Tryz.prog.cellsOf 74 = 4 := by kernel_rfl

section
variable {H : Type} {enc' : TypeId × Value → H} {W : World}
set_option maxRecDepth 100000 in
theorem at_of (n : Nat) (cs : List Value) (x : DataW H × List MemPlace) (h : DataW.trod enc' Tryz.prog W 0 (fun _ => true) true n 74 cs = some x) : ∃ t : At, cs = t.cells ∧ t.ok := by
  obtain ⟨xs, m, _, _, hl, hlen, hf⟩ := DataW.trod_struct Tryz.underlying74 h
  rw [cellsAt] at hl
  match cs, hl with
  | [c0, c1, c2, c3], _ =>
    match xs, hlen with
    | [y0, y1, y2, y3], _ =>
      have f0 := hf 0 _ rfl
      have f1 := hf 1 _ rfl
      have f2 := hf 2 _ rfl
      have f3 := hf 3 _ rfl
      simp [cellsI1, cellsS1] at f0 f1 f2 f3
      obtain ⟨s, e0, _, ws⟩ := DataW.trod_string Tryz.underlying9 f0
      obtain ⟨k, e1, _, wk⟩ := DataW.trod_int Tryz.underlying3 f1
      obtain ⟨n, e2, _, wn⟩ := DataW.trod_int Tryz.underlying3 f2
      obtain ⟨u, e3, _, wu⟩ := DataW.trod_int Tryz.underlying3 f3
      simp at e0 e1 e2 e3
      subst e0 e1 e2 e3
      exact ⟨⟨s, k, n, u⟩, rfl, ws, bounds_i64 wk, bounds_i64 wn, bounds_i64 wu⟩
set_option maxRecDepth 100000 in
theorem vl_of (n : Nat) (cs : List Value) (x : DataW H × List MemPlace) (h : DataW.trod enc' Tryz.prog W 0 (fun _ => true) true n 77 cs = some x) : ∃ t : Vl, cs = t.cells ∧ t.ok := by
  obtain ⟨xs, m, _, _, hl, hlen, hf⟩ := DataW.trod_struct Tryz.underlying77 h
  rw [cellsVl] at hl
  match cs, hl with
  | [c0, c1], _ =>
    match xs, hlen with
    | [y0, y1], _ =>
      have f0 := hf 0 _ rfl
      have f1 := hf 1 _ rfl
      simp [cellsI1, cellsS1] at f0 f1
      obtain ⟨k, e0, _, wk⟩ := DataW.trod_int Tryz.underlying3 f0
      obtain ⟨s, e1, _, ws⟩ := DataW.trod_string Tryz.underlying9 f1
      simp at e0 e1
      subst e0 e1
      exact ⟨⟨k, s⟩, rfl, bounds_i64 wk, ws⟩
set_option maxRecDepth 100000 in
theorem pd_of (n : Nat) (cs : List Value) (x : DataW H × List MemPlace) (h : DataW.trod enc' Tryz.prog W 0 (fun _ => true) true n 134 cs = some x) : ∃ t : Pd, cs = t.cells ∧ t.ok := by
  obtain ⟨xs, m, _, _, hl, hlen, hf⟩ := DataW.trod_struct Tryz.underlying134 h
  rw [cellsPd] at hl
  match cs, hl with
  | [c0, c1, c2, c3, c4], _ =>
    match xs, hlen with
    | [y0, y1, y2, y3, y4], _ =>
      have f0 := hf 0 _ rfl
      have f1 := hf 1 _ rfl
      have f2 := hf 2 _ rfl
      have f3 := hf 3 _ rfl
      have f4 := hf 4 _ rfl
      simp [cellsI1, cellsS1] at f0 f1 f2 f3 f4
      obtain ⟨s, e0, _, ws⟩ := DataW.trod_string Tryz.underlying9 f0
      obtain ⟨k, e1, _, wk⟩ := DataW.trod_int Tryz.underlying3 f1
      obtain ⟨n, e2, _, wn⟩ := DataW.trod_int Tryz.underlying3 f2
      obtain ⟨u, e3, _, wu⟩ := DataW.trod_int Tryz.underlying3 f3
      obtain ⟨q, e4, _, wq⟩ := DataW.trod_string Tryz.underlying9 f4
      simp at e0 e1 e2 e3 e4
      subst e0 e1 e2 e3 e4
      exact ⟨⟨s, k, n, u, q⟩, rfl, ws, bounds_i64 wk, bounds_i64 wn, bounds_i64 wu, wq⟩
set_option maxRecDepth 100000 in
theorem ev_of {n : Nat} {cs : Array Value} {x : DataW H × List MemPlace} (hcs : cs.size = Tryz.prog.cellsOf 27) (h : DataW.trod enc' Tryz.prog W 0 (fun _ => true) true n 27 (Value.agg cs).cells.toList = some x) :
    ∃ (a : Option Addr) (len cap : Nat) (t : List Vl) (s : ByteArray), cs = #[.slice a len cap, .string s] ∧ InRow 2 Vl.cells Vl.ok vl0 W a len t ∧ s.size ≤ maxLen := by
  obtain ⟨xs, m, _, _, hl, hlen, hf⟩ := DataW.trod_struct Tryz.underlying27 h
  rw [cellsEv] at hcs
  obtain ⟨l⟩ := cs
  match l, hcs with
  | [c0, c1], _ =>
    match xs, hlen with
    | [y0, y1], _ =>
      have f0 := hf 0 _ rfl
      have f1 := hf 1 _ rfl
      simp [cellsVs, cellsS1, Value.cells] at f0 f1
      obtain ⟨s, e1, _, ws⟩ := DataW.trod_string Tryz.underlying9 f1
      simp at e1
      subst e1
      obtain ⟨a, len, cap, rfl⟩ : ∃ a len cap, c0 = .slice a len cap := by
        rcases open_slice Tryz.underlying25 f0 with ⟨hcs, _⟩ | ⟨ad, l, c, m, n, D, Pl, hcs, _⟩
        · simp at hcs; exact ⟨_, _, _, hcs⟩
        · simp at hcs; exact ⟨_, _, _, hcs⟩
      obtain ⟨t, ht⟩ := inrow_of 2 Vl.cells Vl.ok vl0 25 77 Tryz.underlying25 cellsVl (by omega) Vl.cells_len (fun n cs x => vl_of n cs x) (a := a) (len := len) (cap := cap) (by simpa [Value.cells] using f0)
      exact ⟨a, len, cap, t, s, rfl, ht, ws⟩
end

theorem own_cells {α : Type} (enc : α → List Value) (k : Nat) (hk : ∀ a, (enc a).length = k) (d : α) {w : World} {B : Nat} {e : TypeId} {v : Value} {us : List α} (h : w.ownsRow B e k v us.length (us.flatMap enc)) (h0 : 0 < us.length) :
    ∃ g c, v = .slice (some ⟨g, 0, none⟩) us.length c ∧ us.length ≤ c ∧ B ≤ g ∧ g < w.heap.size ∧ ∀ i, i < us.length → ∀ j, j < k → w.cell? ⟨g, i * k + j, none⟩ = (enc (us.getD i d))[j]? := by
  rcases h.2 with ⟨_, h1⟩ | ⟨g, cap, cur, hv, hb, hg, hnc, _⟩
  · omega
  · refine ⟨g, cap, hv, hnc, hb, lt_of_block hg, fun i hi j hj => ?_⟩
    have hx := flat_get enc k hk d us i j hi hj
    have hj' : j < (enc (us.getD i d)).length := by rw [hk]; exact hj
    have e := h.cells (g := g) (by rw [hv]; rfl) (i * k + j) ((enc (us.getD i d))[j]) (by rw [hx, List.getElem?_eq_getElem hj'])
    have ea : (⟨g, 0, none⟩ : Addr).add (i * k + j) = ⟨g, i * k + j, none⟩ := by unfold Addr.add; split <;> simp_all
    rw [ea] at e
    rw [e, List.getElem?_eq_getElem hj']
theorem own_shape {w : World} {B : Nat} {e : TypeId} {k n : Nat} {v : Value} {xs : List Value} (h : w.ownsRow B e k v n xs) : ∃ a c, v = .slice a n c := by
  rcases h.2 with ⟨rfl, h1⟩ | ⟨g, cap, cur, hv, _⟩
  · exact ⟨none, 0, by rw [h1]⟩
  · exact ⟨_, _, hv⟩
theorem AtIn.ofOwn {w : World} {B : Nat} {e : TypeId} {v : Value} {us : List At} (h : w.ownsRow B e 4 v us.length (us.flatMap At.cells)) : AtIn w v us := by
  obtain ⟨a, c, hv⟩ := own_shape h
  refine ⟨a, c, hv, fun h0 => ?_⟩
  obtain ⟨g, c', hv', hc, _, hg, hj⟩ := own_cells At.cells 4 At.cells_len at0 h h0
  rw [hv] at hv'
  simp at hv'
  obtain ⟨rfl, rfl⟩ := hv'
  refine ⟨g, rfl, hg, hc, fun j hjl => ?_⟩
  have e := fun i hi => hj j hjl i hi
  exact ⟨by simpa [At.cells] using e 0 (by omega), by simpa [At.cells] using e 1 (by omega), by simpa [At.cells] using e 2 (by omega), by simpa [At.cells] using e 3 (by omega)⟩
theorem VlIn.ofOwn {w : World} {B : Nat} {e : TypeId} {v : Value} {us : List Vl} (h : w.ownsRow B e 2 v us.length (us.flatMap Vl.cells)) : VlIn w v us := by
  obtain ⟨a, c, hv⟩ := own_shape h
  refine ⟨a, c, hv, fun h0 => ?_⟩
  obtain ⟨g, c', hv', hc, _, hg, hj⟩ := own_cells Vl.cells 2 Vl.cells_len vl0 h h0
  rw [hv] at hv'
  simp at hv'
  obtain ⟨rfl, rfl⟩ := hv'
  refine ⟨g, rfl, hg, hc, fun j hjl => ?_⟩
  have e := fun i hi => hj j hjl i hi
  exact ⟨by simpa [Vl.cells] using e 0 (by omega), by simpa [Vl.cells] using e 1 (by omega)⟩
theorem PdIn.ofOwn {w : World} {B : Nat} {e : TypeId} {v : Value} {us : List Pd} (h : w.ownsRow B e 5 v us.length (us.flatMap Pd.cells)) : PdIn w v us := by
  obtain ⟨a, c, hv⟩ := own_shape h
  refine ⟨a, c, hv, fun h0 => ?_⟩
  obtain ⟨g, c', hv', hc, _, hg, hj⟩ := own_cells Pd.cells 5 Pd.cells_len pd0 h h0
  rw [hv] at hv'
  simp at hv'
  obtain ⟨rfl, rfl⟩ := hv'
  refine ⟨g, rfl, hg, hc, fun j hjl => ?_⟩
  have e := fun i hi => hj j hjl i hi
  exact ⟨by simpa [Pd.cells] using e 0 (by omega), by simpa [Pd.cells] using e 1 (by omega), by simpa [Pd.cells] using e 2 (by omega), by simpa [Pd.cells] using e 3 (by omega), by simpa [Pd.cells] using e 4 (by omega)⟩

theorem own_carry {B : Nat} {w w' : World} {e : TypeId} {k n : Nat} {v : Value} {xs : List Value} (h : w.ownsRow B e k v n xs) (hb : Below w.heap.size w w') : w'.ownsRow B e k v n xs := by
  refine ⟨h.1, ?_⟩
  rcases h.2 with h1 | ⟨g', cap, cur, hv, hbg, hg, hr⟩
  · exact .inl h1
  · exact .inr ⟨g', cap, cur, hv, hbg, (hb.block g' (lt_of_block hg)).trans hg, hr⟩
theorem own_keep {B : Nat} {w w' : World} {e : TypeId} {k n : Nat} {v : Value} {xs : List Value} (h : w.ownsRow B e k v n xs) (row : Option Nat) (hg : w.grownBy w' row) (hne : ∀ b, v.ownBlock = some b → row ≠ some b) : w'.ownsRow B e k v n xs := by
  refine h.kept hg ?_
  cases hv : v.ownBlock with
  | none => exact .inl rfl
  | some b => exact .inr fun e => hne b hv e.symm

/-- Two rows of the call's own, apart from one another; nothing of before has turned. -/
structure Rows2 (B : Nat) (w0 w : World) (e1 e2 : TypeId) (k : Nat) (v1 v2 : Value) (n : Nat) (xs1 xs2 : List Value) : Prop where
  r1 : w.ownsRow B e1 k v1 n xs1
  r2 : w.ownsRow B e2 k v2 n xs2
  ap : ∀ b, v1.ownBlock = some b → v2.ownBlock ≠ some b
  bel : Below B w0 w
  le : B ≤ w.heap.size
theorem Rows2.carry {B : Nat} {w0 w w' : World} {e1 e2 : TypeId} {k n : Nat} {v1 v2 : Value} {xs1 xs2 : List Value} (h : Rows2 B w0 w e1 e2 k v1 v2 n xs1 xs2) (hb : Below w.heap.size w w') : Rows2 B w0 w' e1 e2 k v1 v2 n xs1 xs2 :=
  ⟨own_carry h.r1 hb, own_carry h.r2 hb, h.ap, h.bel.trans (hb.mono h.le), Nat.le_trans h.le hb.size⟩
theorem grown_below {B : Nat} {w0 w w' : World} {e : TypeId} {k n : Nat} {v : Value} {xs : List Value} (hb : Below B w0 w) (hle : B ≤ w.heap.size) (h : w.ownsRow B e k v n xs) (hg : w.grownBy w' v.ownBlock) : Below B w0 w' :=
  hb.trans ⟨hg.os, hg.tape, hg.output, hg.size, fun j hj => hg.block j (by omega) (fun e => by have := (h.lt j e.symm).1; omega)⟩
/-- Appended to the first row, then to the second one. -/
theorem Rows2.step {B : Nat} {w0 w W1 W2 W3 W4 : World} {e1 e2 : TypeId} {k n m : Nat} {v1 v2 v1' v2' : Value} {xs1 xs2 ys1 ys2 : List Value} (h : Rows2 B w0 w e1 e2 k v1 v2 n xs1 xs2) (b1 : Below w.heap.size w W1)
    (r1 : W2.ownsRow B e1 k v1' m ys1) (g1 : W1.grownBy W2 v1.ownBlock) (n1 : ∀ j, v1'.ownBlock = some j → v1.ownBlock = some j ∨ W1.heap.size ≤ j)
    (b2 : Below W2.heap.size W2 W3) (r2 : W4.ownsRow B e2 k v2' m ys2) (g2 : W3.grownBy W4 v2.ownBlock) (n2 : ∀ j, v2'.ownBlock = some j → v2.ownBlock = some j ∨ W3.heap.size ≤ j) :
    Rows2 B w0 W4 e1 e2 k v1' v2' m ys1 ys2 := by
  have h1 := h.carry b1
  have q2 : W2.ownsRow B e2 k v2 n xs2 := own_keep h1.r2 _ g1 (fun b hb e => h1.ap b e hb)
  have q3 : W3.ownsRow B e2 k v2 n xs2 := own_carry q2 b2
  have l2 : ∀ j, v2.ownBlock = some j → j < W1.heap.size := fun j hj => (h1.r2.lt j hj).2
  have ap1 : ∀ b, v1'.ownBlock = some b → v2.ownBlock ≠ some b := fun b hb e => by
    rcases n1 b hb with q | q
    · exact h.ap b q e
    · have := l2 b e; omega
  have r1' : W3.ownsRow B e1 k v1' m ys1 := own_carry r1 b2
  have r1'' : W4.ownsRow B e1 k v1' m ys1 := own_keep r1' _ g2 (fun b hb e => ap1 b hb e)
  have bb2 := grown_below h1.bel h1.le h1.r1 g1
  have le2 : B ≤ W2.heap.size := Nat.le_trans h1.le g1.size
  have bb3 := bb2.trans (b2.mono le2)
  have le3 : B ≤ W3.heap.size := Nat.le_trans le2 b2.size
  refine ⟨r1'', r2, fun b hb e => ?_, grown_below bb3 le3 q3 g2, Nat.le_trans le3 g2.size⟩
  rcases n2 b e with q | q
  · exact ap1 b hb q
  · have := (r1'.lt b hb).2; omega
/-- The second row, where the first one was appended to. -/
theorem Rows2.mid {B : Nat} {w0 w W1 W2 : World} {e1 e2 : TypeId} {k n : Nat} {v1 v2 : Value} {xs1 xs2 : List Value} (h : Rows2 B w0 w e1 e2 k v1 v2 n xs1 xs2) (b1 : Below w.heap.size w W1) (g1 : W1.grownBy W2 v1.ownBlock) : W2.ownsRow B e2 k v2 n xs2 :=
  own_keep (h.carry b1).r2 _ g1 (fun b hb e => h.ap b e hb)
/-- A block that is new behind the two rows stays as it is. -/
theorem Rows2.box {B : Nat} {w0 w W1 W2 : World} {e1 e2 : TypeId} {k n : Nat} {v1 v2 : Value} {xs1 xs2 : List Value} (h : Rows2 B w0 w e1 e2 k v1 v2 n xs1 xs2) (b : Nat) (hb : w.heap.size ≤ b) (hb1 : b < W1.heap.size) (g1 : W1.grownBy W2 v1.ownBlock) : W2.heap[b]? = W1.heap[b]? :=
  g1.block b hb1 (fun e => by have := (h.r1.lt b e.symm).2; omega)
end Go.Proofs.YtkncpojijfeahaaGreatDoor

/- wigwaglaw05.Attrs: a schema of at most six attributes, and the same as the document's. -/
namespace Go.Proofs.YtkncpojijfeahaaGreatDoor
open Go.ChangeShapes Go.WideShapes Go.ChangeAt Go.RowKit
set_option linter.unusedVariables false

def cutA (a : At) : At := ⟨cut a.name 20, a.kind, a.mn, a.mx⟩
theorem Tryz.infoAt : (Tryz.prog.info? 74).map (fun i => (i.zero, i.size, i.bytes)) = some (some (.agg #[.string ByteArray.empty, .int .i64 0, .int .i64 0, .int .i64 0]), 4, 40) := by kernel_rfl
theorem Tryz.infoRAt : (Tryz.prog.info? 75).map (fun i => (i.zero, i.size, i.bytes)) = some (some (.agg #[.string ByteArray.empty, .int .i64 0, .int .i64 0, .int .i64 0]), 4, 40) := by kernel_rfl

theorem src_At (w : World) (q : At) (x : Nat) (hx : x = w.heap.size) :
    Src Tryz.prog 4 23 (.slice (some ⟨x, 0, none⟩) 1 1) 1 q.cells (w.alloc (.cells #[.string q.name, .int .i64 q.kind, .int .i64 q.mn, .int .i64 q.mx] 74)) :=
  Src.ofSlice _ Tryz.underlying23 _ 1 1 _ rfl (fun j u hu => by
    subst hx
    have := World.news_of_block (cs := #[.string q.name, .int .i64 q.kind, .int .i64 q.mn, .int .i64 q.mx]) (t := 74) (fr := (0, 0)) (heap_alloc_new w _) j u (by simpa [At.cells] using hu)
    exact this) (by simp [At.cells, Value.oneCell'])
theorem src_RAt (w : World) (q : At) (x : Nat) (hx : x = w.heap.size) :
    Src Tryz.prog 4 28 (.slice (some ⟨x, 0, none⟩) 1 1) 1 q.cells (w.alloc (.cells #[.string q.name, .int .i64 q.kind, .int .i64 q.mn, .int .i64 q.mx] 75)) :=
  Src.ofSlice _ Tryz.underlying28 _ 1 1 _ rfl (fun j u hu => by
    subst hx
    have := World.news_of_block (cs := #[.string q.name, .int .i64 q.kind, .int .i64 q.mn, .int .i64 q.mx]) (t := 75) (fr := (0, 0)) (heap_alloc_new w _) j u (by simpa [At.cells] using hu)
    exact this) (by simp [At.cells, Value.oneCell'])
theorem cutA_snoc (t : List At) (i : Nat) (hi : i < t.length) : ((t.take (i + 1)).map cutA).flatMap At.cells = ((t.take i).map cutA).flatMap At.cells ++ (cutA (t.getD i at0)).cells := by
  rw [List.take_succ_eq_append_getElem hi, List.map_append, List.flatMap_append]
  simp [hi]
theorem InRow.get {α : Type} {k : Nat} {enc : α → List Value} {ok : α → Prop} {d : α} {w : World} {a : Option Addr} {len : Nat} {xs : List α} (h : InRow k enc ok d w a len xs) (i : Nat) (hi : i < len) :
    ∃ b o, a = some ⟨b, o, none⟩ ∧ b < w.heap.size ∧ ok (xs.getD i d) ∧ ∀ j, j < k → w.cell? ⟨b, o + i * k + j, none⟩ = (enc (xs.getD i d))[j]? := by
  rcases h.2.2 with h0 | ⟨b, o, ha, hb, hc⟩
  · omega
  · exact ⟨b, o, ha, hb, (hc i hi).1, (hc i hi).2⟩

set_option maxRecDepth 100000 in
set_option maxHeartbeats 1000000 in
theorem attrs_any (a : Option Addr) (len cap : Nat) (t : List At) (w : World) (h : InRow 4 At.cells At.ok at0 w a len t) :
    Calls Tryz.prog 6 #[.slice a len cap] w fun e w' => ∃ v1 v2, e = .returned (.tuple #[v1, v2]) ∧
      Rows2 w.heap.size w w' 74 75 4 v1 v2 ((t.take 6).map cutA).length (((t.take 6).map cutA).flatMap At.cells) (((t.take 6).map cutA).flatMap At.cells) := by
  obtain ⟨i0, hi, hz0, hz1, hz2⟩ := info_parts Tryz.infoAt
  obtain ⟨i1, hj, hy0, hy1, hy2⟩ := info_parts Tryz.infoRAt
  have hlen := h.2.1
  have HL : Hid (t.length = len) := h.1
  have HI : Hid (InRow 4 At.cells At.ok at0 w a len t) := h
  have HS : Hid (Rows2 w.heap.size w ((w.alloc (.cells #[] 74)).alloc (.cells #[] 75)) 74 75 4 (.slice (some ⟨w.heap.size, 0, none⟩) 0 0) (.slice (some ⟨w.heap.size + 1, 0, none⟩) 0 0) 0 [] []) := by
    refine ⟨(World.ownsRow_made w #[] 0 (Nat.le_refl _) (Nat.zero_le _) rfl).alloc _, ?_, fun b hb e => ?_, below2 _ _ _, by simp; omega⟩
    · have := World.ownsRow_made (base := w.heap.size) (e := 75) (size := 4) (w.alloc (.cells #[] 74)) #[] 0 (by simp) (Nat.zero_le _) rfl
      simpa using this
    · simp [Value.ownBlock] at hb e; omega
  clear h
  go_enter Tryz.func6, Tryz.ntmps6
  go_wp2
  go_loopg [4, 5, 6] 6 (fun kx s4 s5 s6 wr => ∃ i : Nat, s6 = .int .i64 i ∧ i ≤ len ∧ i ≤ 6 ∧ kx = 6 - i ∧ (∃ a1 c1, s4 = .slice a1 i c1) ∧ (∃ a2 c2, s5 = .slice a2 i c2) ∧ Hid (Rows2 w.heap.size w wr 74 75 4 s4 s5 i (((t.take i).map cutA).flatMap At.cells) (((t.take i).map cutA).flatMap At.cells)))
  case atStart => exact ⟨0, rfl, Nat.zero_le _, Nat.zero_le _, rfl, ⟨_, _, rfl⟩, ⟨_, _, rfl⟩, by simpa using HS⟩
  case round =>
    obtain ⟨i, rfl, h1, h2, rfl, ⟨a1, c1, rfl⟩, ⟨a2, c2, rfl⟩, R⟩ := hrel
    by_cases hl : i < len
    · by_cases h6 : i < 6
      · obtain ⟨b, o, rfl, hb, hok, hcell⟩ := HI.out.get i hl
        have SN : Hid (((t.take (i + 1)).map cutA).flatMap At.cells = ((t.take i).map cutA).flatMap At.cells ++ (cutA (t.getD i at0)).cells) := cutA_snoc t i (by have := HL.out; omega)
        have hnm : (t.getD i at0).name.size ≤ maxLen := hok.1
        generalize t.getD i at0 = x at hcell hnm SN
        have hbw := R.out.bel
        have hle := R.out.le
        have e : ∀ j, wr.cell? ⟨b, j, none⟩ = w.cell? ⟨b, j, none⟩ := fun j => hbw.cell (p := ⟨b, j, none⟩) hb
        have k0 := hcell 0 (by omega)
        have k1 := hcell 1 (by omega)
        have k2 := hcell 2 (by omega)
        have k3 := hcell 3 (by omega)
        simp only [At.cells, ← e] at k0 k1 k2 k3
        simp at k0 k1 k2 k3
        have hlt : b < wr.heap.size := Nat.lt_of_lt_of_le hb hle
        clear hcell e hok hbw
        go_wp2_with fail
        refine (cut_any x.name 20 _ hnm).mono ?_
        rintro e w' ⟨rfl, hw'⟩
        subst w'
        go_wp2_with (at_builtin; refine wpList_own_append4 _ rfl _ _ 23 23 rfl w.heap.size 74 i0 _ 40 Tryz.underlying23 hi hz0 hz1 hz2 rfl _ _ _ rfl (own_carry R.out.r1 (below2 _ _ _)) _ 1 (cutA x).cells rfl (src_At (wr.alloc _) (cutA x) (wr.heap.size + 1) (by simp)) ?c3 ?c4 ?c5 ?_)
        case c3 => unfold maxLen; omega
        case c4 => omega
        case c5 => simp; omega
        intro v1' W2 ha
        have hbox := R.out.box (wr.heap.size) (Nat.le_refl _) (by simp; omega) ha.grown
        rw [Below.heap_alloc _ _ _ (by simp), heap_alloc_new] at hbox
        have m0 := blk_cell (j := 0) hbox (by simp)
        have m1 := blk_cell (j := 1) hbox (by simp)
        have m2 := blk_cell (j := 2) hbox (by simp)
        have m3 := blk_cell (j := 3) hbox (by simp)
        simp at m0 m1 m2 m3
        have mlt := lt_of_block hbox
        have Q2 : Hid (W2.ownsRow w.heap.size 75 4 (.slice a2 i c2) i (((t.take i).map cutA).flatMap At.cells)) := R.out.mid (below2 _ _ _) ha.grown
        have L2 : Hid (w.heap.size ≤ W2.heap.size) := Nat.le_trans hle (Nat.le_trans (below2 wr _ _).size ha.grown.size)
        obtain ⟨a1', c1', hv1⟩ := ha.shape
        subst hv1
        have HA : Hid _ := ha
        clear ha hbox k0 k1 k2 k3
        go_wp2_with (at_builtin; refine wpList_own_append4 _ rfl _ _ 28 28 rfl w.heap.size 75 i1 _ 40 Tryz.underlying28 hj hy0 hy1 hy2 rfl _ _ _ rfl (own_carry Q2.out (below1 _ _)) _ 1 (cutA x).cells rfl (src_RAt W2 (cutA x) _ rfl) ?d3 ?d4 ?d5 ?_)
        case d3 => unfold maxLen; omega
        case d4 => omega
        case d5 => have := L2.out; simp; omega
        intro v2' W4 ha2
        have hst := R.out.step (below2 _ _ _) HA.out.row HA.out.grown HA.out.new (below1 _ _) ha2.row ha2.grown ha2.new
        obtain ⟨a2', c2', hv2⟩ := ha2.shape
        subst hv2
        have HST : Hid (Rows2 w.heap.size w W4 74 75 4 (.slice a1' (i + 1) c1') (.slice a2' (i + 1) c2') (i + 1) (((t.take (i + 1)).map cutA).flatMap At.cells) (((t.take (i + 1)).map cutA).flatMap At.cells)) := by
          show Rows2 _ _ _ _ _ _ _ _ _ _ _
          rw [SN.out, List.map_take]; exact hst
        clear hst ha2 HA Q2 L2 m0 m1 m2 m3 mlt
        go_wp2
        go_roundg (6 - (i + 1))
        case measure => omega
        case rel => exact ⟨i + 1, by go_num, by omega, by omega, rfl, ⟨_, _, rfl⟩, ⟨_, _, rfl⟩, HST⟩
      · obtain rfl : i = 6 := by omega
        have HE : Hid (((t.take 6).map cutA).length = 6) := (by have := HL.out; simp; omega : ((t.take 6).map cutA).length = 6)
        go_wp2
        go_ret2
        exact ⟨_, _, rfl, by rw [HE.out]; exact R.out⟩
    · obtain rfl : i = len := by omega
      have HE : Hid (t.take i = t.take 6 ∧ ((t.take 6).map cutA).length = i) := (by
        have := HL.out
        refine ⟨?_, by simp; omega⟩
        rw [List.take_of_length_le (by omega), List.take_of_length_le (by omega)] : t.take i = t.take 6 ∧ ((t.take 6).map cutA).length = i)
      go_wp2
      go_ret2
      exact ⟨_, _, rfl, by rw [HE.out.2, ← HE.out.1]; exact R.out⟩
end Go.Proofs.YtkncpojijfeahaaGreatDoor

/- wigwaglaw05.Preds: a filter of at most six predicates, and the same as the document's. -/
namespace Go.Proofs.YtkncpojijfeahaaGreatDoor
open Go.ChangeShapes Go.WideShapes Go.ChangeAt Go.RowKit
set_option linter.unusedVariables false

def cutP (a : Pd) : Pd := ⟨cut a.name 20, a.op, a.lo, a.hi, cut a.str 50⟩
theorem Tryz.infoPdv : (Tryz.prog.info? 134).map (fun i => (i.zero, i.size, i.bytes)) = some (some (.agg #[.string ByteArray.empty, .int .i64 0, .int .i64 0, .int .i64 0, .string ByteArray.empty]), 5, 56) := by kernel_rfl
theorem Tryz.infoRPd : (Tryz.prog.info? 160).map (fun i => (i.zero, i.size, i.bytes)) = some (some (.agg #[.string ByteArray.empty, .int .i64 0, .int .i64 0, .int .i64 0, .string ByteArray.empty]), 5, 56) := by kernel_rfl

theorem src_Pd (w : World) (q : Pd) (x : Nat) (hx : x = w.heap.size) :
    Src Tryz.prog 5 87 (.slice (some ⟨x, 0, none⟩) 1 1) 1 q.cells (w.alloc (.cells #[.string q.name, .int .i64 q.op, .int .i64 q.lo, .int .i64 q.hi, .string q.str] 134)) :=
  Src.ofSlice _ Tryz.underlying87 _ 1 1 _ rfl (fun j u hu => by
    subst hx
    have := World.news_of_block (cs := #[.string q.name, .int .i64 q.op, .int .i64 q.lo, .int .i64 q.hi, .string q.str]) (t := 134) (fr := (0, 0)) (heap_alloc_new w _) j u (by simpa [Pd.cells] using hu)
    exact this) (by simp [Pd.cells, Value.oneCell'])
theorem src_RPd (w : World) (q : Pd) (x : Nat) (hx : x = w.heap.size) :
    Src Tryz.prog 5 117 (.slice (some ⟨x, 0, none⟩) 1 1) 1 q.cells (w.alloc (.cells #[.string q.name, .int .i64 q.op, .int .i64 q.lo, .int .i64 q.hi, .string q.str] 160)) :=
  Src.ofSlice _ Tryz.underlying117 _ 1 1 _ rfl (fun j u hu => by
    subst hx
    have := World.news_of_block (cs := #[.string q.name, .int .i64 q.op, .int .i64 q.lo, .int .i64 q.hi, .string q.str]) (t := 160) (fr := (0, 0)) (heap_alloc_new w _) j u (by simpa [Pd.cells] using hu)
    exact this) (by simp [Pd.cells, Value.oneCell'])
theorem cutP_snoc (t : List Pd) (i : Nat) (hi : i < t.length) : ((t.take (i + 1)).map cutP).flatMap Pd.cells = ((t.take i).map cutP).flatMap Pd.cells ++ (cutP (t.getD i pd0)).cells := by
  rw [List.take_succ_eq_append_getElem hi, List.map_append, List.flatMap_append]
  simp [hi]
end Go.Proofs.YtkncpojijfeahaaGreatDoor

/- wigwaglaw05.Event: an event of at most six values, and its values as the document's. -/
namespace Go.Proofs.YtkncpojijfeahaaGreatDoor
open Go.ChangeShapes Go.WideShapes Go.ChangeAt Go.RowKit
set_option linter.unusedVariables false

def cutV (a : Vl) : Vl := ⟨a.num, cut a.str 50⟩
theorem Tryz.infoVl : (Tryz.prog.info? 77).map (fun i => (i.zero, i.size, i.bytes)) = some (some (.agg #[.int .i64 0, .string ByteArray.empty]), 2, 24) := by kernel_rfl
theorem Tryz.infoRVl : (Tryz.prog.info? 78).map (fun i => (i.zero, i.size, i.bytes)) = some (some (.agg #[.int .i64 0, .string ByteArray.empty]), 2, 24) := by kernel_rfl
theorem src_Vl (w : World) (q : Vl) (x : Nat) (hx : x = w.heap.size) :
    Src Tryz.prog 2 25 (.slice (some ⟨x, 0, none⟩) 1 1) 1 q.cells (w.alloc (.cells #[.int .i64 q.num, .string q.str] 77)) :=
  Src.ofSlice _ Tryz.underlying25 _ 1 1 _ rfl (fun j u hu => by
    subst hx
    have := World.news_of_block (cs := #[.int .i64 q.num, .string q.str]) (t := 77) (fr := (0, 0)) (heap_alloc_new w _) j u (by simpa [Vl.cells] using hu)
    exact this) (by simp [Vl.cells, Value.oneCell'])
theorem src_RVl (w : World) (q : Vl) (x : Nat) (hx : x = w.heap.size) :
    Src Tryz.prog 2 31 (.slice (some ⟨x, 0, none⟩) 1 1) 1 q.cells (w.alloc (.cells #[.int .i64 q.num, .string q.str] 78)) :=
  Src.ofSlice _ Tryz.underlying31 _ 1 1 _ rfl (fun j u hu => by
    subst hx
    have := World.news_of_block (cs := #[.int .i64 q.num, .string q.str]) (t := 78) (fr := (0, 0)) (heap_alloc_new w _) j u (by simpa [Vl.cells] using hu)
    exact this) (by simp [Vl.cells, Value.oneCell'])
theorem cutV_snoc (t : List Vl) (i : Nat) (hi : i < t.length) : ((t.take (i + 1)).map cutV).flatMap Vl.cells = ((t.take i).map cutV).flatMap Vl.cells ++ (cutV (t.getD i vl0)).cells := by
  rw [List.take_succ_eq_append_getElem hi, List.map_append, List.flatMap_append]
  simp [hi]

/-- An event that is being made: its box p, its row v1, the document's row v2. -/
structure Ev (B : Nat) (w0 w : World) (p : Nat) (pay : ByteArray) (v1 v2 : Value) (n1 n2 : Nat) (xs1 xs2 : List Value) : Prop where
  r1 : w.ownsRow B 77 2 v1 n1 xs1
  r2 : w.ownsRow B 78 2 v2 n2 xs2
  ap : ∀ b, v1.ownBlock = some b → v2.ownBlock ≠ some b
  box : w.heap[p]? = some (.cells #[v1, .string pay] 27 (0, 0))
  a1 : v1.ownBlock ≠ some p
  a2 : v2.ownBlock ≠ some p
  lo : B ≤ p
  bel : Below B w0 w
  le : B ≤ w.heap.size
section
variable {B : Nat} {w0 w W2 : World} {p : Nat} {pay : ByteArray} {v1 v2 v' : Value} {n1 n2 m : Nat} {xs1 xs2 ys : List Value}
theorem Ev.lt (h : Ev B w0 w p pay v1 v2 n1 n2 xs1 xs2) : p < w.heap.size := lt_of_block h.box
theorem Ev.carry {w' : World} (h : Ev B w0 w p pay v1 v2 n1 n2 xs1 xs2) (hb : Below w.heap.size w w') : Ev B w0 w' p pay v1 v2 n1 n2 xs1 xs2 :=
  ⟨own_carry h.r1 hb, own_carry h.r2 hb, h.ap, (hb.block p h.lt).trans h.box, h.a1, h.a2, h.lo, h.bel.trans (hb.mono h.le), Nat.le_trans h.le hb.size⟩
/-- The first row behind an append, ahead of the store. -/
theorem Ev.box2 (h : Ev B w0 w p pay v1 v2 n1 n2 xs1 xs2) (g : w.grownBy W2 v1.ownBlock) : W2.heap[p]? = some (.cells #[v1, .string pay] 27 (0, 0)) :=
  (g.block p h.lt (fun e => h.a1 e.symm)).trans h.box
theorem Ev.step1 (h : Ev B w0 w p pay v1 v2 n1 n2 xs1 xs2) (r : W2.ownsRow B 77 2 v' m ys) (g : w.grownBy W2 v1.ownBlock) (nw : ∀ j, v'.ownBlock = some j → v1.ownBlock = some j ∨ w.heap.size ≤ j) :
    Ev B w0 (W2.setCell ⟨p, 0, none⟩ v') p pay v' v2 m n2 ys xs2 := by
  have hp := h.lt
  have q2 : W2.ownsRow B 78 2 v2 n2 xs2 := own_keep h.r2 _ g (fun b hb e => h.ap b e hb)
  have a1' : v'.ownBlock ≠ some p := fun e => by
    rcases nw p e with q | q
    · exact h.a1 q
    · omega
  have hb2 := h.box2 g
  have hset : (W2.setCell ⟨p, 0, none⟩ v').heap[p]? = some (.cells #[v', .string pay] 27 (0, 0)) := by
    have hlt := lt_of_block hb2
    have h' : W2.heap[p] = .cells #[v1, .string pay] 27 (0, 0) := by simpa [Array.getElem?_eq_getElem hlt] using hb2
    show (W2.heap.modify p _)[p]? = _
    rw [Array.getElem?_eq_getElem (by simpa using hlt), Array.getElem_modify_self, h']
    rfl
  have bb := grown_below h.bel h.le h.r1 g
  refine ⟨ownsRow_setCell_other r (a := ⟨p, 0, none⟩) a1' v', ownsRow_setCell_other q2 (a := ⟨p, 0, none⟩) h.a2 v', fun b hb e => ?_, hset, a1', h.a2, h.lo, bb.setCell (by have := h.lo; exact this) _, ?_⟩
  · rcases nw b hb with q | q
    · exact h.ap b q e
    · have := (h.r2.lt b e).2; omega
  · have := h.le; have := g.size; simp [World.setCell]; omega
theorem Ev.step2 (h : Ev B w0 w p pay v1 v2 n1 n2 xs1 xs2) (r : W2.ownsRow B 78 2 v' m ys) (g : w.grownBy W2 v2.ownBlock) (nw : ∀ j, v'.ownBlock = some j → v2.ownBlock = some j ∨ w.heap.size ≤ j) :
    Ev B w0 W2 p pay v1 v' n1 m xs1 ys := by
  have hp := h.lt
  have q1 : W2.ownsRow B 77 2 v1 n1 xs1 := own_keep h.r1 _ g (fun b hb e => h.ap b hb e)
  refine ⟨q1, r, fun b hb e => ?_, (g.block p hp (fun e => h.a2 e.symm)).trans h.box, h.a1, fun e => ?_, h.lo, grown_below h.bel h.le h.r2 g, Nat.le_trans h.le g.size⟩
  · rcases nw b e with q | q
    · exact h.ap b hb q
    · have := (h.r1.lt b hb).2; omega
  · rcases nw p e with q | q
    · exact h.a2 q
    · omega
theorem Ev.keep1 {b : Nat} (h : Ev B w0 w p pay v1 v2 n1 n2 xs1 xs2) (hb : v1.ownBlock ≠ some b) (hlt : b < w.heap.size) (g : w.grownBy W2 v1.ownBlock) : W2.heap[b]? = w.heap[b]? := g.block b hlt (fun e => hb e.symm)
end

theorem own_baseV {B B' : Nat} {w : World} {e : TypeId} {k n : Nat} {v : Value} {xs : List Value} (h : w.ownsRow B e k v n xs) (hb : B' ≤ B) : w.ownsRow B' e k v n xs := by
  refine ⟨h.1, ?_⟩
  rcases h.2 with h1 | ⟨g', cap, cur, hv, hbg, hr⟩
  · exact .inl h1
  · exact .inr ⟨g', cap, cur, hv, Nat.le_trans hb hbg, hr⟩
/-- The event is laid down as the answer. -/
theorem Ev.done {B : Nat} {w00 w0 w : World} {p q : Nat} {pay : ByteArray} {v1 v2 x y : Value} {n1 n2 : Nat} {xs1 xs2 : List Value} (h : Ev B w0 w p pay v1 v2 n1 n2 xs1 xs2) (hB : w00.heap.size ≤ q) (hq : q < B) (hw : w00.heap.size ≤ B) (hb : Below w00.heap.size w00 w0) :
    ((w.setCell ⟨q, 0, none⟩ x).setCell ⟨q, 1, none⟩ y).ownsRow w00.heap.size 77 2 v1 n1 xs1 ∧
    ((w.setCell ⟨q, 0, none⟩ x).setCell ⟨q, 1, none⟩ y).ownsRow w00.heap.size 78 2 v2 n2 xs2 ∧
    (∀ b, v1.ownBlock = some b → v2.ownBlock ≠ some b) ∧ Below w00.heap.size w00 ((w.setCell ⟨q, 0, none⟩ x).setCell ⟨q, 1, none⟩ y) := by
  have n1' : v1.ownBlock ≠ some q := fun e => by have := (h.r1.lt q e).1; omega
  have n2' : v2.ownBlock ≠ some q := fun e => by have := (h.r2.lt q e).1; omega
  exact ⟨own_baseV (ownsRow_setCell_other (ownsRow_setCell_other h.r1 (a := ⟨q, 0, none⟩) n1' _) (a := ⟨q, 1, none⟩) n1' _) hw, own_baseV (ownsRow_setCell_other (ownsRow_setCell_other h.r2 (a := ⟨q, 0, none⟩) n2' _) (a := ⟨q, 1, none⟩) n2' _) hw, h.ap,
    ((hb.trans (h.bel.mono hw)).setCell hB _).setCell hB _⟩

set_option maxRecDepth 100000 in
set_option maxHeartbeats 1000000 in
theorem ev_any (a : Option Addr) (len cap : Nat) (s : ByteArray) (t : List Vl) (w : World) (h : InRow 2 Vl.cells Vl.ok vl0 w a len t) (hs : s.size ≤ maxLen) :
    Calls Tryz.prog 7 #[.agg #[.slice a len cap, .string s]] w fun e w' => ∃ v1 v2, e = .returned (.tuple #[.agg #[v1, .string (cut s 210)], v2]) ∧
      w'.ownsRow w.heap.size 77 2 v1 ((t.take 6).map cutV).length (((t.take 6).map cutV).flatMap Vl.cells) ∧
      w'.ownsRow w.heap.size 78 2 v2 ((t.take 6).map cutV).length (((t.take 6).map cutV).flatMap Vl.cells) ∧ (∀ b, v1.ownBlock = some b → v2.ownBlock ≠ some b) ∧ Below w.heap.size w w' := by
  obtain ⟨i0, hi, hz0, hz1, hz2⟩ := info_parts Tryz.infoVl
  obtain ⟨i1, hj, hy0, hy1, hy2⟩ := info_parts Tryz.infoRVl
  have hlen := h.2.1
  have HL : Hid (t.length = len) := h.1
  obtain ⟨pay, hpay⟩ : ∃ pay, pay = cut s 210 := ⟨_, rfl⟩
  have HP : Hid (pay = cut s 210) := hpay
  rw [← hpay]
  clear hpay
  obtain ⟨w1, hw1⟩ : ∃ w1, w1 = (w.alloc (.cells #[.slice a len cap, .string s] 27)).alloc (.cells #[.slice none 0 0, .string ⟨#[]⟩] 27) := ⟨_, rfl⟩
  have s1 : w1.heap.size = w.heap.size + 2 := by rw [hw1]; simp
  have b1 : Below w.heap.size w w1 := by rw [hw1]; exact below2 _ _ _
  have x0 : w1.heap[w.heap.size]? = some (.cells #[.slice a len cap, .string s] 27 (0, 0)) := by rw [hw1, Below.heap_alloc _ _ _ (by simp)]; exact heap_alloc_new _ _
  have x1 : w1.heap[w.heap.size + 1]? = some (.cells #[.slice none 0 0, .string ⟨#[]⟩] 27 (0, 0)) := by
    have := heap_alloc_new (w.alloc (.cells #[.slice a len cap, .string s] 27)) (.cells #[.slice none 0 0, .string ⟨#[]⟩] 27)
    rw [hw1]; simpa using this
  have HI : Hid (InRow 2 Vl.cells Vl.ok vl0 w1 a len t) := h.below (Nat.le_refl _) b1
  go_enter Tryz.func7, Tryz.ntmps7
  go_wp2_with fail
  refine (cut_any s 210 _ hs).mono ?_
  rintro e w' ⟨rfl, hw'⟩
  subst w'
  rw [← HP.out]
  have HS : Hid (Ev w1.heap.size w1 ((w1.alloc (.cells #[] 78)).alloc (.cells #[.slice none 0 0, .string pay] 27)) (w.heap.size + 1 + 1 + 1) pay (.slice none 0 0) (.slice (some ⟨w.heap.size + 1 + 1, 0, none⟩) 0 0) 0 0 [] []) := by
    have s2 : w.heap.size + 1 + 1 = w1.heap.size := by omega
    have q := World.ownsRow_made (base := w1.heap.size) (e := 78) (size := 2) w1 #[] 0 (Nat.le_refl _) (Nat.zero_le _) rfl
    rw [s2]
    refine ⟨World.ownsRow_nil _ _ _ _, q.alloc _, fun b hb e => by simp [Value.ownBlock] at hb, new_at (by simp), by simp [Value.ownBlock], by simp [Value.ownBlock], by omega, below2 _ _ _, by simp; omega⟩
  have HX : Hid (w1.heap.size = w.heap.size + 2 ∧ Below w.heap.size w w1) := ⟨s1, b1⟩
  go_wp2
  rw [← hw1]
  clear hw1 h s1 b1
  go_loopg [5, 6] 6 (fun kx s5 s6 wr => ∃ i : Nat, s6 = .int .i64 i ∧ i ≤ len ∧ i ≤ 6 ∧ kx = 6 - i ∧ (∃ a2 c2, s5 = .slice a2 i c2) ∧ ∃ a1 c1, Hid (Ev w1.heap.size w1 wr (w.heap.size + 1 + 1 + 1) pay (.slice a1 i c1) s5 i i (((t.take i).map cutV).flatMap Vl.cells) (((t.take i).map cutV).flatMap Vl.cells)))
  case atStart => exact ⟨0, rfl, Nat.zero_le _, Nat.zero_le _, rfl, ⟨_, _, rfl⟩, none, 0, by simpa using HS⟩
  case round =>
    obtain ⟨i, rfl, h1, h2, rfl, ⟨a2, c2, rfl⟩, a1, c1, R⟩ := hrel
    have hle := R.out.le
    have hP := R.out.lt
    have y0 := blk_cell (j := 0) ((R.out.bel.block _ (by have := HX.out.1; omega)).trans x0) (by simp)
    simp at y0
    have p0 := blk_cell (j := 0) R.out.box (by simp)
    have p1 := blk_cell (j := 1) R.out.box (by simp)
    simp at p0 p1
    have hw1 : w.heap.size < wr.heap.size := by omega
    by_cases hl : i < len
    · by_cases h6 : i < 6
      · obtain ⟨b, o, rfl, hb, hok, hcell⟩ := HI.out.get i hl
        have SN : Hid (((t.take (i + 1)).map cutV).flatMap Vl.cells = ((t.take i).map cutV).flatMap Vl.cells ++ (cutV (t.getD i vl0)).cells) := cutV_snoc t i (by have := HL.out; omega)
        have hnm : (t.getD i vl0).str.size ≤ maxLen := hok.2
        generalize t.getD i vl0 = x at hcell hnm SN
        have hbw := R.out.bel
        have e : ∀ j, wr.cell? ⟨b, j, none⟩ = w1.cell? ⟨b, j, none⟩ := fun j => hbw.cell (p := ⟨b, j, none⟩) hb
        have k0 := hcell 0 (by omega)
        have k1 := hcell 1 (by omega)
        simp only [Vl.cells, ← e] at k0 k1
        simp at k0 k1
        have hlt : b < wr.heap.size := Nat.lt_of_lt_of_le hb hle
        clear hcell e hok hbw
        go_wp2_with fail
        refine (cut_any x.str 50 _ hnm).mono ?_
        rintro e w' ⟨rfl, hw'⟩
        subst w'
        go_wp2_with (at_builtin; refine wpList_own_append2 _ rfl _ _ 25 25 rfl w1.heap.size 77 i0 _ 24 Tryz.underlying25 hi hz0 hz1 hz2 rfl _ _ _ rfl (own_carry R.out.r1 (below2 _ _ _)) _ 1 (cutV x).cells rfl (src_Vl (wr.alloc _) (cutV x) (wr.heap.size + 1) (by simp)) ?c3 ?c4 ?c5 ?_)
        case c3 => unfold maxLen; omega
        case c4 => omega
        case c5 => simp; omega
        intro v1' W2 ha
        have hc2 := R.out.carry (below2 wr (.cells #[.int .i64 x.num, .string (cut x.str 50)] 77) (.cells #[.int .i64 x.num, .string (cut x.str 50)] 77))
        have E1 : Hid (Ev w1.heap.size w1 (W2.setCell ⟨w.heap.size + 1 + 1 + 1, 0, none⟩ v1') (w.heap.size + 1 + 1 + 1) pay v1' (.slice a2 i c2) (i + 1) i _ _) := hc2.step1 ha.row ha.grown ha.new
        have hb2 := hc2.box2 ha.grown
        have z0 := blk_cell (j := 0) hb2 (by simp)
        have z1 := blk_cell (j := 1) hb2 (by simp)
        simp at z0 z1
        have zf : W2.frozen? ⟨w.heap.size + 1 + 1 + 1, 0, none⟩ = false := by simp [World.frozen?, hb2]
        have zl := lt_of_block hb2
        have hbx : W2.heap[wr.heap.size]? = some (.cells #[.int .i64 x.num, .string (cut x.str 50)] 77 (0, 0)) := by
          rw [hc2.keep1 (fun e => by have := (R.out.r1.lt _ e).2; omega) (by simp; omega) ha.grown, Below.heap_alloc _ _ _ (by simp)]
          exact heap_alloc_new _ _
        have hne : w.heap.size + 1 + 1 + 1 ≠ wr.heap.size := by omega
        have hbx2 : (W2.setCell ⟨w.heap.size + 1 + 1 + 1, 0, none⟩ v1').heap[wr.heap.size]? = some (.cells #[.int .i64 x.num, .string (cut x.str 50)] 77 (0, 0)) := by
          rw [Below.heap_setCell _ _ _ _ (by simpa using hne.symm)]; exact hbx
        have m0 := blk_cell (j := 0) hbx2 (by simp)
        have m1 := blk_cell (j := 1) hbx2 (by simp)
        simp at m0 m1
        have ml := lt_of_block hbx2
        have L2 : Hid (w1.heap.size ≤ (W2.setCell ⟨w.heap.size + 1 + 1 + 1, 0, none⟩ v1').heap.size) := E1.out.le
        obtain ⟨a1', c1', hv1⟩ := ha.shape
        subst hv1
        have hsz : (W2.setCell ⟨w.heap.size + 1 + 1 + 1, 0, none⟩ (.slice a1' (i + 1) c1')).heap.size = W2.heap.size := by simp [World.setCell]
        clear ha hb2 hbx hbx2 k0 k1 hc2 p0 p1 y0
        go_wp2_with (at_builtin; refine wpList_own_append2 _ rfl _ _ 31 31 rfl w1.heap.size 78 i1 _ 24 Tryz.underlying31 hj hy0 hy1 hy2 rfl _ _ _ rfl (own_carry E1.out.r2 (below1 _ _)) _ 1 (cutV x).cells rfl (src_RVl _ (cutV x) _ (by first | rfl | simp [World.setCell])) ?d3 ?d4 ?d5 ?_)
        case d3 => unfold maxLen; omega
        case d4 => omega
        case d5 => have := L2.out; simp; omega
        intro v2' W4 ha2
        have hst := (E1.out.carry (below1 _ _)).step2 ha2.row ha2.grown ha2.new
        obtain ⟨a2', c2', hv2⟩ := ha2.shape
        subst hv2
        have HST : Hid (Ev w1.heap.size w1 W4 (w.heap.size + 1 + 1 + 1) pay (.slice a1' (i + 1) c1') (.slice a2' (i + 1) c2') (i + 1) (i + 1) (((t.take (i + 1)).map cutV).flatMap Vl.cells) (((t.take (i + 1)).map cutV).flatMap Vl.cells)) := by
          show Ev _ _ _ _ _ _ _ _ _ _ _
          rw [SN.out, List.map_take]; exact hst
        clear hst ha2 E1 L2 m0 m1 ml z0 z1 zf zl hsz
        go_wp2
        go_roundg (6 - (i + 1))
        case measure => omega
        case rel => exact ⟨i + 1, by go_num, by omega, by omega, rfl, ⟨_, _, rfl⟩, _, _, HST⟩
      · obtain rfl : i = 6 := by omega
        have HE : Hid (((t.take 6).map cutV).length = 6) := (by have := HL.out; simp; omega : ((t.take 6).map cutV).length = 6)
        have b1 := HX.out.2
        have q1 := (R.out.bel.block _ (by have := HX.out.1; omega)).trans x1
        have r0 := blk_cell (j := 0) q1 (by simp)
        have r1 := blk_cell (j := 1) q1 (by simp)
        simp at r0 r1
        have rf : wr.frozen? ⟨w.heap.size + 1, 0, none⟩ = false := by simp [World.frozen?, q1]
        have rf1 : wr.frozen? ⟨w.heap.size + 1, 1, none⟩ = false := by simp [World.frozen?, q1]
        have rl : w.heap.size + 1 < wr.heap.size := lt_of_block q1
        go_wp2
        refine bodyPost_ret (v := .tuple #[.agg #[.slice a1 6 c1, .string pay], .slice a2 6 c2]) (by simp [results, Tryz.results7, go_sem, r0, r1]) rfl ⟨_, _, rfl, ?_⟩
        rw [HE.out]
        exact R.out.done (by omega) (by have := HX.out.1; omega) (by have := HX.out.1; omega) b1
    · obtain rfl : i = len := by omega
      have HE : Hid (t.take i = t.take 6 ∧ ((t.take 6).map cutV).length = i) := (by
        have := HL.out
        refine ⟨?_, by simp; omega⟩
        rw [List.take_of_length_le (by omega), List.take_of_length_le (by omega)] : t.take i = t.take 6 ∧ ((t.take 6).map cutV).length = i)
      have b1 := HX.out.2
      have q1 := (R.out.bel.block _ (by have := HX.out.1; omega)).trans x1
      have r0 := blk_cell (j := 0) q1 (by simp)
      have r1 := blk_cell (j := 1) q1 (by simp)
      simp at r0 r1
      have rf : wr.frozen? ⟨w.heap.size + 1, 0, none⟩ = false := by simp [World.frozen?, q1]
      have rf1 : wr.frozen? ⟨w.heap.size + 1, 1, none⟩ = false := by simp [World.frozen?, q1]
      have rl : w.heap.size + 1 < wr.heap.size := lt_of_block q1
      go_wp2
      refine bodyPost_ret (v := .tuple #[.agg #[.slice a1 i c1, .string pay], .slice a2 i c2]) (by simp [results, Tryz.results7, go_sem, r0, r1]) rfl ⟨_, _, rfl, ?_⟩
      rw [HE.out.2, ← HE.out.1]
      exact R.out.done (by omega) (by have := HX.out.1; omega) (by have := HX.out.1; omega) b1
end Go.Proofs.YtkncpojijfeahaaGreatDoor
