/- The board in memory: its box and its three maps. -/
import Derived.Test.YtpepbhmdfjpblaaGreatDoorBkKeys
import Derived.Test.YtpepbhmdfjpblaaGreatDoorValMatch
namespace Go.Proofs.YtpepbhmdfjpblaaGreatDoor
open Go.ChangeShapes Go.WideShapes Go.ChangeAt Go.RowKit
open Go.ChangeMaps (setBlock)
set_option linter.unusedVariables false

/-- Whatever cells lie in a world lie there still. -/
structure Kc (w w' : World) : Prop where
  size : w.heap.size ≤ w'.heap.size
  cell : ∀ b o v, w.cell? ⟨b, o, none⟩ = some v → w'.heap[b]? = w.heap[b]?
theorem Kc.ofBelow {w w' : World} (h : Below w.heap.size w w') : Kc w w' := ⟨h.size, fun b o v hc => h.block b (cell_block hc)⟩
theorem Kc.setB {κ : Type} {kv : κ → Value} {w : World} {g : Nat} {m : List (κ × Value)} (h : MpK kv w g m) (o : Obj) : Kc w (setBlock w g o) :=
  ⟨by rw [setB_size]; exact Nat.le_refl _, fun b x v hc => setB_other (fun e => by rw [e, h.no_cell] at hc; cases hc) o⟩
theorem Kc.at {w w' : World} (k : Kc w w') {b o : Nat} {v : Value} (h : w.cell? ⟨b, o, none⟩ = some v) : w'.cell? ⟨b, o, none⟩ = some v := (World.cell?_of_block (a := ⟨b, o, none⟩) (k.cell b o v h)).trans h
theorem Kc.trans {a b c : World} (h : Kc a b) (h' : Kc b c) : Kc a c := ⟨Nat.le_trans h.size h'.size, fun x o v hc => (h'.cell x o v (h.at hc)).trans (h.cell x o v hc)⟩
theorem VlIn.kc {w w' : World} {v : Value} {az : List Vl} (h : VlIn w v az) (k : Kc w w') : VlIn w' v az := by
  obtain ⟨a, c, hv, hh⟩ := h.shape
  refine ⟨a, c, hv, fun hp => ?_⟩
  obtain ⟨g, ha, hg, hc, hj⟩ := hh hp
  exact ⟨g, ha, Nat.lt_of_lt_of_le hg k.size, hc, fun j hl => ⟨k.at (hj j hl).1, k.at (hj j hl).2⟩⟩
theorem PdIn.kc {w w' : World} {v : Value} {az : List Pd} (h : PdIn w v az) (k : Kc w w') : PdIn w' v az := by
  obtain ⟨a, c, hv, hh⟩ := h.shape
  refine ⟨a, c, hv, fun hp => ?_⟩
  obtain ⟨g, ha, hg, hc, hj⟩ := hh hp
  exact ⟨g, ha, Nat.lt_of_lt_of_le hg k.size, hc, fun j hl => ⟨k.at (hj j hl).1, k.at (hj j hl).2.1, k.at (hj j hl).2.2.1, k.at (hj j hl).2.2.2.1, k.at (hj j hl).2.2.2.2⟩⟩
theorem AtIn.kc {w w' : World} {v : Value} {az : List At} (h : AtIn w v az) (k : Kc w w') : AtIn w' v az := by
  obtain ⟨a, c, hv, hh⟩ := h.shape
  refine ⟨a, c, hv, fun hp => ?_⟩
  obtain ⟨g, ha, hg, hc, hj⟩ := hh hp
  exact ⟨g, ha, Nat.lt_of_lt_of_le hg k.size, hc, fun j hl => ⟨k.at (hj j hl).1, k.at (hj j hl).2.1, k.at (hj j hl).2.2.1, k.at (hj j hl).2.2.2⟩⟩

def EvR (w : World) (p : (Int × Int) × Value) (e : Bev) : Prop := p.1 = e.key ∧ ∃ u, p.2 = .agg #[u, .string e.pay] ∧ VlIn w u e.vs
def SbR (w : World) (p : (Int × Int) × Value) (s : Bsb) : Prop := p.1 = s.key ∧ PdIn w p.2 s.ps
theorem EvR.kc {w w' : World} (k : Kc w w') (p : (Int × Int) × Value) (e : Bev) (h : EvR w p e) : EvR w' p e := ⟨h.1, by obtain ⟨u, h1, h2⟩ := h.2; exact ⟨u, h1, h2.kc k⟩⟩
theorem SbR.kc {w w' : World} (k : Kc w w') (p : (Int × Int) × Value) (e : Bsb) (h : SbR w p e) : SbR w' p e := ⟨h.1, h.2.kc k⟩
/-- The board: its box lies in block p, its maps in ge, gs, gg. -/
structure BdAt (w : World) (p ge gs gg : Nat) (S : List At) (E : List Bev) (U : List Bsb) (G : List Bgf) : Prop where
  box : ∃ sv, w.heap[p]? = some (.cells #[sv, .map (some ge), .map (some gs), .map (some gg)] 86 (0, 0)) ∧ AtIn w sv S
  n1 : ge ≠ gs
  n2 : ge ≠ gg
  n3 : gs ≠ gg
  ev : ∃ m, MpK kv2 w ge m ∧ Rel2 (EvR w) m E
  sb : ∃ m, MpK kv2 w gs m ∧ Rel2 (SbR w) m U
  gf : MpK kv4 w gg (G.map fun g => (g, Value.agg #[]))
  sok : SchemaOk S
  eok : ∀ e ∈ E, EventOk S e.vs e.pay.size
  uok : ∀ u ∈ U, FilterOk S u.ps
/-- All stays but for three blocks. -/
structure Kb (w w' : World) (ge gs gg : Nat) : Prop where
  os : w'.os = w.os
  tape : w'.tape = w.tape
  output : w'.output = w.output
  size : w.heap.size ≤ w'.heap.size
  block : ∀ b, b < w.heap.size → b ≠ ge → b ≠ gs → b ≠ gg → w'.heap[b]? = w.heap[b]?
theorem Kb.ofBelow {w w' : World} {ge gs gg : Nat} (h : Below w.heap.size w w') : Kb w w' ge gs gg := ⟨h.os, h.tape, h.output, h.size, fun b hb _ _ _ => h.block b hb⟩
theorem Kb.trans {a b c : World} {ge gs gg : Nat} (h : Kb a b ge gs gg) (h' : Kb b c ge gs gg) : Kb a c ge gs gg :=
  ⟨h'.os.trans h.os, h'.tape.trans h.tape, h'.output.trans h.output, Nat.le_trans h.size h'.size, fun x hx n1 n2 n3 => (h'.block x (Nat.lt_of_lt_of_le hx h.size) n1 n2 n3).trans (h.block x hx n1 n2 n3)⟩
theorem Kb.setB (w : World) {ge gs gg g : Nat} (o : Obj) (hg : g = ge ∨ g = gs ∨ g = gg) : Kb w (setBlock w g o) ge gs gg :=
  ⟨rfl, rfl, rfl, by rw [setB_size]; exact Nat.le_refl _, fun b hb n1 n2 n3 => setB_other (by rcases hg with rfl | rfl | rfl <;> assumption) o⟩
theorem Kb.below {w w' : World} {ge gs gg B : Nat} (h : Kb w w' ge gs gg) (h1 : B ≤ ge) (h2 : B ≤ gs) (h3 : B ≤ gg) (hB : B ≤ w.heap.size) : Below B w w' :=
  ⟨h.os, h.tape, h.output, h.size, fun x hx => h.block x (by omega) (by omega) (by omega) (by omega)⟩
section
variable {w w' : World} {p ge gs gg : Nat} {S : List At} {E : List Bev} {U : List Bsb} {G : List Bgf}
theorem BdAt.kc (h : BdAt w p ge gs gg S E U G) (k : Kb w w' ge gs gg) : Kc w w' := by
  refine ⟨k.size, fun b o v hc => k.block b (cell_block hc) (fun e => ?_) (fun e => ?_) (fun e => ?_)⟩
  · obtain ⟨m, hm, _⟩ := h.ev; rw [e, hm.no_cell] at hc; cases hc
  · obtain ⟨m, hm, _⟩ := h.sb; rw [e, hm.no_cell] at hc; cases hc
  · rw [e, h.gf.no_cell] at hc; cases hc
theorem BdAt.lts (h : BdAt w p ge gs gg S E U G) : p < w.heap.size ∧ ge < w.heap.size ∧ gs < w.heap.size ∧ gg < w.heap.size := by
  obtain ⟨sv, h1, _⟩ := h.box
  obtain ⟨m, hm, _⟩ := h.ev
  obtain ⟨m', hm', _⟩ := h.sb
  exact ⟨lt_of_block h1, hm.lt, hm'.lt, h.gf.lt⟩
theorem BdAt.below (h : BdAt w p ge gs gg S E U G) (hb : Below w.heap.size w w') : BdAt w' p ge gs gg S E U G := by
  have hl := h.lts
  have k := Kc.ofBelow hb
  obtain ⟨sv, h1, h2⟩ := h.box
  obtain ⟨m, hm, hr⟩ := h.ev
  obtain ⟨m', hm', hr'⟩ := h.sb
  exact ⟨⟨sv, (hb.block _ hl.1).trans h1, h2.below hb⟩, h.n1, h.n2, h.n3, ⟨m, hm.of_block (hb.block _ hl.2.1), rel2_mono (EvR.kc k) _ _ hr⟩, ⟨m', hm'.of_block (hb.block _ hl.2.2.1), rel2_mono (SbR.kc k) _ _ hr'⟩, h.gf.of_block (hb.block _ hl.2.2.2), h.sok, h.eok, h.uok⟩
theorem BdAt.drew (h : BdAt w p ge gs gg S E U G) : BdAt w.drew p ge gs gg S E U G := h.below ⟨rfl, rfl, rfl, Nat.le_refl _, fun _ _ => rfl⟩
theorem BdAt.cells (h : BdAt w p ge gs gg S E U G) : ∃ a c, AtIn w (.slice a S.length c) S ∧ w.cell? ⟨p, 0, none⟩ = some (.slice a S.length c) ∧ w.cell? ⟨p, 1, none⟩ = some (.map (some ge)) ∧ w.cell? ⟨p, 2, none⟩ = some (.map (some gs)) ∧ w.cell? ⟨p, 3, none⟩ = some (.map (some gg)) ∧ p < w.heap.size := by
  obtain ⟨sv, h1, h2⟩ := h.box
  obtain ⟨a, c, rfl, _⟩ := h2.shape
  exact ⟨a, c, h2, by simp [World.cell?, h1], by simp [World.cell?, h1], by simp [World.cell?, h1], by simp [World.cell?, h1], lt_of_block h1⟩
theorem zero_ev (w : World) : (zeroValue 44).run Tryz.prog w = .ok (.agg #[.slice none 0 0, .string ByteArray.empty]) w := by kernel_rfl
theorem zero_fl (w : World) : (zeroValue 103).run Tryz.prog w = .ok (.slice none 0 0) w := by kernel_rfl
theorem zero_st (w : World) : (zeroValue 122).run Tryz.prog w = .ok (.agg #[]) w := by kernel_rfl
/-- Is an event there? -/
theorem BdAt.ask_ev (h : BdAt w p ge gs gg S E U G) (k : Int × Int) :
    ((∀ e ∈ E, e.key ≠ k) ∧ ∀ w', Below w.heap.size w w' → (Instr.lookup 82 (.map (some ge)) (.agg #[.int .i64 k.1, .int .i64 k.2]) true).run Tryz.prog w' = .ok (.tuple #[.agg #[.slice none 0 0, .string ByteArray.empty], .bool false]) w') ∨
    ∃ e u, e ∈ E ∧ e.key = k ∧ VlIn w u e.vs ∧ ∀ w', Below w.heap.size w w' → (Instr.lookup 82 (.map (some ge)) (.agg #[.int .i64 k.1, .int .i64 k.2]) true).run Tryz.prog w' = .ok (.tuple #[.agg #[u, .string e.pay], .bool true]) w' := by
  obtain ⟨m, hm, hr⟩ := h.ev
  rcases look_rel (key := Bev.key) (fun p b q => q.1) hr k with ⟨h1, h2⟩ | ⟨e, v, h1, h2, h3, h4⟩
  · exact .inl ⟨h2, fun w' hb => ((hm.of_block (hb.block _ hm.lt)).look_none key_stamp Tryz.underlying82 (zero_ev w') h1).1⟩
  · obtain ⟨_, u, hv, hu⟩ := h4
    simp only at hv
    refine .inr ⟨e, u, h1, h2, hu, fun w' hb => ?_⟩
    rw [← hv]
    exact ((hm.of_block (hb.block _ hm.lt)).look_some key_stamp Tryz.underlying82 h3).1
/-- Is a subscription there? -/
theorem BdAt.ask_sb (h : BdAt w p ge gs gg S E U G) (k : Int × Int) :
    ((∀ e ∈ U, e.key ≠ k) ∧ ∀ w', Below w.heap.size w w' → (Instr.lookup 83 (.map (some gs)) (.agg #[.int .i64 k.1, .int .i64 k.2]) true).run Tryz.prog w' = .ok (.tuple #[.slice none 0 0, .bool false]) w') ∨
    ∃ (e : Bsb) (a : Option Addr) (c : Nat), e ∈ U ∧ e.key = k ∧ PdIn w (.slice a e.ps.length c) e.ps ∧ ∀ w', Below w.heap.size w w' → (Instr.lookup 83 (.map (some gs)) (.agg #[.int .i64 k.1, .int .i64 k.2]) true).run Tryz.prog w' = .ok (.tuple #[.slice a e.ps.length c, .bool true]) w' := by
  obtain ⟨m, hm, hr⟩ := h.sb
  rcases look_rel (key := Bsb.key) (fun p b q => q.1) hr k with ⟨h1, h2⟩ | ⟨e, v, h1, h2, h3, h4⟩
  · exact .inl ⟨h2, fun w' hb => ((hm.of_block (hb.block _ hm.lt)).look_none key_who Tryz.underlying83 (zero_fl w') h1).1⟩
  · obtain ⟨_, hu⟩ := h4
    simp only at hu
    obtain ⟨a, c, rfl, _⟩ := hu.shape
    exact .inr ⟨e, a, c, h1, h2, hu, fun w' hb => ((hm.of_block (hb.block _ hm.lt)).look_some key_who Tryz.underlying83 h3).1⟩
theorem look_gf (G : List Bgf) (k : Bgf) : lookK (G.map fun g => (g, Value.agg #[])) k = if k ∈ G then some (.agg #[]) else none := by
  induction G with
  | nil => simp [lookK]
  | cons g G ih =>
    by_cases e : g = k
    · subst e; simp [lookK]
    · have e' : ¬ k = g := fun q => e q.symm
      simp only [List.map_cons, lookK, e, if_false, ih, List.mem_cons, e', false_or]
/-- Did it get it? -/
theorem BdAt.ask_gf (h : BdAt w p ge gs gg S E U G) (k : Bgf) :
    ∀ w', Below w.heap.size w w' → (Instr.lookup 84 (.map (some gg)) (.agg #[.int .i64 k.1.1, .int .i64 k.1.2, .int .i64 k.2.1, .int .i64 k.2.2]) true).run Tryz.prog w' = .ok (.tuple #[.agg #[], .bool (decide (k ∈ G))]) w' := by
  intro w' hb
  have hm := h.gf.of_block (hb.block _ h.gf.lt)
  by_cases e : k ∈ G
  · rw [decide_eq_true e]
    exact (hm.look_some key_gift Tryz.underlying84 (by rw [look_gf, if_pos e])).1
  · rw [decide_eq_false e]
    exact (hm.look_none key_gift Tryz.underlying84 (zero_st w') (by rw [look_gf, if_neg e])).1
/-- An event is laid. -/
theorem BdAt.put_ev (h : BdAt w p ge gs gg S E U G) (k : Int × Int) (hno : ∀ e ∈ E, e.key ≠ k) {u : Value} {vs : List Vl} {pay : ByteArray} (hu : VlIn w u vs) (hok : EventOk S vs pay.size) :
    ∃ w', (Instr.mapUpdate 82 (.map (some ge)) (.agg #[.int .i64 k.1, .int .i64 k.2]) (.agg #[u, .string pay])).run Tryz.prog w = .ok () w' ∧ BdAt w' p ge gs gg S (E ++ [⟨k, vs, pay⟩]) U G ∧ Kb w w' ge gs gg := by
  obtain ⟨m, hm, hr⟩ := h.ev
  have hl : lookK m k = none := by
    rcases look_rel (key := Bev.key) (fun p b q => q.1) hr k with ⟨h1, _⟩ | ⟨e, v, h1, h2, _⟩
    · exact h1
    · exact absurd h2 (hno e h1)
  obtain ⟨o, h1, h2⟩ := hm.put key_stamp Tryz.underlying82 hl (.agg #[u, .string pay])
  have kc : Kc w (setBlock w ge o) := Kc.setB hm o
  have kb : Kb w (setBlock w ge o) ge gs gg := Kb.setB w o (.inl rfl)
  obtain ⟨sv, b1, b2⟩ := h.box
  have npe : p ≠ ge := fun e => by
    obtain ⟨_, es, c, q, _⟩ := hm
    rw [e, q] at b1; cases b1
  obtain ⟨m', hm', hr'⟩ := h.sb
  refine ⟨_, h1, ⟨⟨sv, (setB_other npe o).trans b1, b2.kc kc⟩, h.n1, h.n2, h.n3, ⟨_, h2, rel2_snoc ⟨rfl, u, rfl, hu.kc kc⟩ _ _ (rel2_mono (EvR.kc kc) _ _ hr)⟩, ⟨m', hm'.of_block (setB_other (Ne.symm h.n1) o), rel2_mono (SbR.kc kc) _ _ hr'⟩, h.gf.of_block (setB_other (Ne.symm h.n2) o), h.sok, fun e he => ?_, h.uok⟩, kb⟩
  rcases List.mem_append.1 he with q | q
  · exact h.eok e q
  · simp at q; subst q; exact hok
/-- A subscription is laid. -/
theorem BdAt.put_sb (h : BdAt w p ge gs gg S E U G) (k : Int × Int) (hno : ∀ e ∈ U, e.key ≠ k) {u : Value} {ps : List Pd} (hu : PdIn w u ps) (hok : FilterOk S ps) :
    ∃ w', (Instr.mapUpdate 83 (.map (some gs)) (.agg #[.int .i64 k.1, .int .i64 k.2]) u).run Tryz.prog w = .ok () w' ∧ BdAt w' p ge gs gg S E (U ++ [⟨k, ps⟩]) G ∧ Kb w w' ge gs gg := by
  obtain ⟨m, hm, hr⟩ := h.sb
  have hl : lookK m k = none := by
    rcases look_rel (key := Bsb.key) (fun p b q => q.1) hr k with ⟨h1, _⟩ | ⟨e, v, h1, h2, _⟩
    · exact h1
    · exact absurd h2 (hno e h1)
  obtain ⟨o, h1, h2⟩ := hm.put key_who Tryz.underlying83 hl u
  have kc : Kc w (setBlock w gs o) := Kc.setB hm o
  have kb : Kb w (setBlock w gs o) ge gs gg := Kb.setB w o (.inr (.inl rfl))
  obtain ⟨sv, b1, b2⟩ := h.box
  have npe : p ≠ gs := fun e => by
    obtain ⟨_, es, c, q, _⟩ := hm
    rw [e, q] at b1; cases b1
  obtain ⟨m', hm', hr'⟩ := h.ev
  refine ⟨_, h1, ⟨⟨sv, (setB_other npe o).trans b1, b2.kc kc⟩, h.n1, h.n2, h.n3, ⟨m', hm'.of_block (setB_other h.n1 o), rel2_mono (EvR.kc kc) _ _ hr'⟩, ⟨_, h2, rel2_snoc ⟨rfl, hu.kc kc⟩ _ _ (rel2_mono (SbR.kc kc) _ _ hr)⟩, h.gf.of_block (setB_other (Ne.symm h.n3) o), h.sok, h.eok, fun e he => ?_⟩, kb⟩
  rcases List.mem_append.1 he with q | q
  · exact h.uok e q
  · simp at q; subst q; exact hok
/-- It is given. -/
theorem BdAt.put_gf (h : BdAt w p ge gs gg S E U G) (k : Bgf) (hno : k ∉ G) :
    ∃ w', (Instr.mapUpdate 84 (.map (some gg)) (.agg #[.int .i64 k.1.1, .int .i64 k.1.2, .int .i64 k.2.1, .int .i64 k.2.2]) (.agg #[])).run Tryz.prog w = .ok () w' ∧ BdAt w' p ge gs gg S E U (G ++ [k]) ∧ Kb w w' ge gs gg := by
  obtain ⟨o, h1, h2⟩ := h.gf.put key_gift Tryz.underlying84 (k := k) (by rw [look_gf, if_neg hno]) (.agg #[])
  have kc : Kc w (setBlock w gg o) := Kc.setB h.gf o
  have kb : Kb w (setBlock w gg o) ge gs gg := Kb.setB w o (.inr (.inr rfl))
  obtain ⟨sv, b1, b2⟩ := h.box
  have npe : p ≠ gg := fun e => by
    obtain ⟨_, es, c, q, _⟩ := h.gf
    rw [e, q] at b1; cases b1
  obtain ⟨m', hm', hr'⟩ := h.ev
  obtain ⟨m, hm, hr⟩ := h.sb
  exact ⟨_, h1, ⟨⟨sv, (setB_other npe o).trans b1, b2.kc kc⟩, h.n1, h.n2, h.n3, ⟨m', hm'.of_block (setB_other h.n2 o), rel2_mono (EvR.kc kc) _ _ hr'⟩, ⟨m, hm.of_block (setB_other h.n3 o), rel2_mono (SbR.kc kc) _ _ hr⟩, by rw [List.map_append]; exact h2, h.sok, h.eok, h.uok⟩, kb⟩
/-- A subscription goes. -/
theorem BdAt.del_sb (h : BdAt w p ge gs gg S E U G) (k : Int × Int) (ty ty2 : TypeId) :
    ∃ w', (Builtin.delete_ #[83, ty2] ty #[.map (some gs), .agg #[.int .i64 k.1, .int .i64 k.2]]).run Tryz.prog w = .ok (.tuple #[]) w' ∧ BdAt w' p ge gs gg S E (U.filter fun u => u.key ≠ k) G ∧ Kb w w' ge gs gg := by
  obtain ⟨m, hm, hr⟩ := h.sb
  obtain ⟨o, h1, h2⟩ := hm.del key_who Tryz.underlying83 k ty ty2
  have kc : Kc w (setBlock w gs o) := Kc.setB hm o
  have kb : Kb w (setBlock w gs o) ge gs gg := Kb.setB w o (.inr (.inl rfl))
  obtain ⟨sv, b1, b2⟩ := h.box
  have npe : p ≠ gs := fun e => by
    obtain ⟨_, es, c, q, _⟩ := hm
    rw [e, q] at b1; cases b1
  obtain ⟨m', hm', hr'⟩ := h.ev
  exact ⟨_, h1, ⟨⟨sv, (setB_other npe o).trans b1, b2.kc kc⟩, h.n1, h.n2, h.n3, ⟨m', hm'.of_block (setB_other h.n1 o), rel2_mono (EvR.kc kc) _ _ hr'⟩, ⟨_, h2, rel2_filter (fun p b q => by rw [q.1]) _ _ (rel2_mono (SbR.kc kc) _ _ hr)⟩, h.gf.of_block (setB_other (Ne.symm h.n3) o), h.sok, h.eok, fun e he => h.uok e (List.mem_filter.1 he).1⟩, kb⟩
theorem BdAt.len_sb (h : BdAt w p ge gs gg S E U G) (ty : TypeId) : (Builtin.len_ #[83] ty #[.map (some gs)]).run Tryz.prog w = .ok (.int .i64 U.length) w := by
  obtain ⟨m, hm, hr⟩ := h.sb
  rw [hm.len Tryz.underlying83 ty, rel2_len _ _ hr]
end
end Go.Proofs.YtpepbhmdfjpblaaGreatDoor
