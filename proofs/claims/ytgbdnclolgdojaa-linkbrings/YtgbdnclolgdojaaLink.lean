/- link.Link: where an end lies; link.joined, Push, confirm, Idle. -/
import Derived.Test.YtgbdnclolgdojaaRows
import Derived.Test.YtgbdnclolgdojaaCodeW
import Derived.Test.YtgbdnclolgdojaaBagMath
import Derived.WalkKit
import Derived.ProofKit
import Derived.OpenShut
import Derived.WalkLawsBesides
import Derived.OneCell
import Derived.Deep.AppendSrc
import Derived.Outline
namespace Go.Proofs.Ytgbdnclolgdojaa
open Go.ChangeShapes Go.WideShapes Go.ChangeAt Go.RowKit
set_option linter.unusedVariables false

/-- One side's end. -/
structure Lk where
  q : List ByteArray
  acked : Int
  came : Int
  owes : Bool
def lk0 : Lk := ⟨[], 0, 0, false⟩
def tx (Q : List ByteArray) (j : Nat) : ByteArray := Q.getD j ByteArray.empty

/-- Texts lie in a row from block base on. -/
def TxRow (base : Nat) (w : World) (a : Option Addr) (Q : List ByteArray) : Prop :=
  Q = [] ∨ ∃ b o, a = some ⟨b, o, none⟩ ∧ base ≤ b ∧ b < w.heap.size ∧ ∀ j, j < Q.length → w.cell? ⟨b, o + j, none⟩ = some (.string (tx Q j))
theorem TxRow.carry {base : Nat} {w w' : World} {a : Option Addr} {Q : List ByteArray} (h : TxRow base w a Q) (hs : w.heap.size ≤ w'.heap.size) (hb : ∀ k, base ≤ k → k < w.heap.size → w'.heap[k]? = w.heap[k]?) : TxRow base w' a Q := by
  rcases h with h | ⟨b, o, ha, h1, h2, h3⟩
  · exact .inl h
  · exact .inr ⟨b, o, ha, h1, by omega, fun j hj => (World.cell?_of_block (a := ⟨b, o + j, none⟩) (hb b h1 h2)).trans (h3 j hj)⟩

/-- An end at p, o; its queue's rows lie from block base on. -/
structure LkAt (base : Nat) (w : World) (p o : Nat) (l : Lk) : Prop where
  lo : p < base
  hi : base ≤ w.heap.size
  q : ∃ a c, w.cell? ⟨p, o, none⟩ = some (.slice a l.q.length c) ∧ l.q.length ≤ c ∧ c ≤ 9223372036854775807 ∧ TxRow base w a l.q
  k1 : w.cell? ⟨p, o + 1, none⟩ = some (.int .i64 l.acked)
  k2 : w.cell? ⟨p, o + 2, none⟩ = some (.int .i64 l.came)
  k3 : w.cell? ⟨p, o + 3, none⟩ = some (.bool l.owes)
  fz : ∀ k, w.frozen? ⟨p, k, none⟩ = false

/-- What a call on the end at p, o leaves as it was. -/
structure Chg (w w' : World) (p o : Nat) : Prop where
  os : w'.os = w.os
  tape : w'.tape = w.tape
  output : w'.output = w.output
  size : w.heap.size ≤ w'.heap.size
  block : ∀ k, k < w.heap.size → k ≠ p → w'.heap[k]? = w.heap[k]?
  far : ∀ x, (x < o ∨ o + 4 ≤ x) → w'.cell? ⟨p, x, none⟩ = w.cell? ⟨p, x, none⟩
  fz : ∀ x, w'.frozen? ⟨p, x, none⟩ = w.frozen? ⟨p, x, none⟩
  qn : w'.cell? ⟨p, o, none⟩ = w.cell? ⟨p, o, none⟩ ∨ ∃ a n c, w'.cell? ⟨p, o, none⟩ = some (.slice a n c) ∧ ∀ x, a = some x → w.heap.size ≤ x.block
theorem Chg.refl (w : World) (p o : Nat) : Chg w w p o := ⟨rfl, rfl, rfl, Nat.le_refl _, fun _ _ _ => rfl, fun _ _ => rfl, fun _ => rfl, .inl rfl⟩
theorem Chg.trans {a b c : World} {p o : Nat} (h : Chg a b p o) (k : Chg b c p o) : Chg a c p o :=
  ⟨k.os.trans h.os, k.tape.trans h.tape, k.output.trans h.output, Nat.le_trans h.size k.size, fun i hi hp => (k.block i (Nat.lt_of_lt_of_le hi h.size) hp).trans (h.block i hi hp), fun x hx => (k.far x hx).trans (h.far x hx), fun x => (k.fz x).trans (h.fz x), by
    rcases k.qn with e | ⟨a', n, c', e, hb⟩
    · rcases h.qn with e2 | ⟨a2, n2, c2, e2, hb2⟩
      · exact .inl (e.trans e2)
      · exact .inr ⟨_, _, _, e.trans e2, hb2⟩
    · exact .inr ⟨_, _, _, e, fun x hx => Nat.le_trans h.size (hb x hx)⟩⟩
theorem Chg.ofBelow {w w' : World} {p o : Nat} (h : Below w.heap.size w w') (hp : p < w.heap.size) : Chg w w' p o :=
  ⟨h.os, h.tape, h.output, h.size, fun k hk _ => h.block k hk, fun x _ => h.cell (p := ⟨p, x, none⟩) hp, fun x => h.frozen (p := ⟨p, x, none⟩) hp, .inl (h.cell (p := ⟨p, o, none⟩) hp)⟩
theorem Chg.below {B : Nat} {a w w' : World} {p o : Nat} (h : Chg w w' p o) (hb : Below B a w) (hB : B ≤ p) (hs : B ≤ w.heap.size) : Below B a w' :=
  hb.trans ⟨h.os, h.tape, h.output, h.size, fun k hk => h.block k (by omega) (by omega)⟩
theorem cell_lt {w : World} {p o : Nat} {v : Value} (h : w.cell? ⟨p, o, none⟩ = some v) : p < w.heap.size := World.block_lt_of_cell? _ _ h
theorem set_same {w : World} {p o : Nat} {u : Value} (v : Value) (h : w.cell? ⟨p, o, none⟩ = some u) : (w.setCell ⟨p, o, none⟩ v).cell? ⟨p, o, none⟩ = some v := World.cell?_setCell_same' _ _ _ (by rw [h]; rfl)
theorem set_other {w : World} {p x y : Nat} {v : Value} (h : x ≠ y) : (w.setCell ⟨p, x, none⟩ v).cell? ⟨p, y, none⟩ = w.cell? ⟨p, y, none⟩ := World.cell?_setCell_other w _ _ v (fun e => h (congrArg Addr.off e))
theorem Chg.set {w : World} {p o x : Nat} (v : Value) (h0 : o < x) (h1 : x < o + 4) : Chg w (w.setCell ⟨p, x, none⟩ v) p o :=
  ⟨rfl, rfl, rfl, by simp [World.setCell], fun k _ hp => Below.heap_setCell _ _ _ _ (by simpa using hp), fun y hy => set_other (by omega), fun y => by simp, .inl (set_other (by omega))⟩
theorem Chg.setQ {w w1 : World} {p o : Nat} {u : Value} (hb : Below w.heap.size w w1) (hp : p < w.heap.size) (hcell : w1.cell? ⟨p, o, none⟩ = some u) (a : Option Addr) (n c : Nat) (hnew : ∀ x, a = some x → w.heap.size ≤ x.block) : Chg w (w1.setCell ⟨p, o, none⟩ (.slice a n c)) p o :=
  ⟨hb.os, hb.tape, hb.output, by simpa [World.setCell] using hb.size, fun k hk hne => (Below.heap_setCell _ _ _ _ (by simpa using hne)).trans (hb.block k hk), fun y hy => (set_other (by omega)).trans (hb.cell (p := ⟨p, y, none⟩) hp), fun y => by rw [← hb.frozen (p := ⟨p, y, none⟩) hp]; simp, .inr ⟨a, n, c, set_same _ hcell, hnew⟩⟩

theorem LkAt.lt {base : Nat} {w : World} {p o : Nat} {l : Lk} (h : LkAt base w p o l) : p < w.heap.size := cell_lt h.k1
/-- Another end, or this one behind a change elsewhere. -/
theorem LkAt.chg {base : Nat} {w w' : World} {p o p' o' : Nat} {l : Lk} (h : LkAt base w p' o' l) (hc : Chg w w' p o) (hp : p < base) (hd : p' ≠ p ∨ o' + 4 ≤ o ∨ o + 4 ≤ o') : LkAt base w' p' o' l := by
  have hcell : ∀ x, o' ≤ x → x < o' + 4 → w'.cell? ⟨p', x, none⟩ = w.cell? ⟨p', x, none⟩ := fun x h0 h1 => by
    by_cases e : p' = p
    · subst e; exact hc.far x (by rcases hd with h2 | h2; exact absurd rfl h2; omega)
    · exact World.cell?_of_block (hc.block p' h.lt e)
  have hfz : ∀ x, w'.frozen? ⟨p', x, none⟩ = w.frozen? ⟨p', x, none⟩ := fun x => by
    by_cases e : p' = p
    · subst e; exact hc.fz x
    · exact World.frozen?_of_block (hc.block p' h.lt e)
  obtain ⟨a, c, h1, h2, h3, h4⟩ := h.q
  exact ⟨h.lo, Nat.le_trans h.hi hc.size, ⟨a, c, (hcell o' (by omega) (by omega)).trans h1, h2, h3, h4.carry hc.size (fun k hk hk' => hc.block k hk' (by omega))⟩, (hcell _ (by omega) (by omega)).trans h.k1, (hcell _ (by omega) (by omega)).trans h.k2, (hcell _ (by omega) (by omega)).trans h.k3, fun x => (hfz x).trans (h.fz x)⟩
theorem LkAt.below {base : Nat} {w w' : World} {p o : Nat} {l : Lk} (h : LkAt base w p o l) (hb : Below w.heap.size w w') : LkAt base w' p o l := by
  have hc := fun x => hb.cell (p := ⟨p, x, none⟩) h.lt
  obtain ⟨a, c, h1, h2, h3, h4⟩ := h.q
  exact ⟨h.lo, Nat.le_trans h.hi hb.size, ⟨a, c, (hc _).trans h1, h2, h3, h4.carry hb.size (fun k _ hk => hb.block k hk)⟩, (hc _).trans h.k1, (hc _).trans h.k2, (hc _).trans h.k3, fun x => (hb.frozen (p := ⟨p, x, none⟩) h.lt).trans (h.fz x)⟩
theorem LkAt.alloc {base : Nat} {w : World} {p o : Nat} {l : Lk} (h : LkAt base w p o l) (ob : Obj) : LkAt base (w.alloc ob) p o l := h.below ((Below.refl _ _).alloc (Nat.le_refl _) ob)

theorem TxRow.drewN {base : Nat} {w : World} {a : Option Addr} {Q : List ByteArray} (h : TxRow base w a Q) (n : Nat) : TxRow base (w.drewN n) a Q := h
theorem LkAt.drewN {base : Nat} {w : World} {p o : Nat} {l : Lk} (h : LkAt base w p o l) (n : Nat) : LkAt base (w.drewN n) p o l := h.below ⟨rfl, rfl, rfl, Nat.le_refl _, fun _ _ => rfl⟩
theorem Chg.drewN {w w' : World} {p o : Nat} (h : Chg w w' p o) (n : Nat) : Chg w (w'.drewN n) p o := ⟨h.os, h.tape, h.output, h.size, h.block, h.far, h.fz, h.qn⟩
theorem Try.infoStr : (Try.prog.info? 9).map (fun i => (i.zero, i.size, i.bytes)) = some (some (.string ByteArray.empty), 1, 16) := by kernel_rfl

def txs (Q : List ByteArray) : List Value := Q.map Value.string
theorem txs_one (Q : List ByteArray) : ∀ u ∈ txs Q, u.oneCell' = true := by
  intro u hu
  obtain ⟨s, _, rfl⟩ := List.mem_map.1 hu
  rfl
theorem TxRow.src {base : Nat} {w : World} {a : Option Addr} {Q : List ByteArray} {c : Nat} (h : TxRow base w a Q) : Src Try.prog 1 22 (.slice a Q.length c) Q.length (txs Q) w := by
  rcases h with rfl | ⟨b, o, rfl, h1, h2, h3⟩
  · cases a with
    | none => exact Src.ofNil _ Try.underlying22 c
    | some x => exact Src.ofSlice _ Try.underlying22 x 0 c [] rfl (fun j u hu => by simp at hu) (by simp)
  · refine Src.ofSlice _ Try.underlying22 _ _ _ _ (by simp [txs]) (fun j u hu => ?_) (txs_one Q)
    have hj : j < Q.length := by have := (List.getElem?_eq_some_iff.1 hu).1; simpa [txs] using this
    rw [Addr.add_lit, h3 j hj]
    have : (txs Q)[j]? = some (.string (tx Q j)) := by simp [txs, tx, List.getD, hj]
    rw [this] at hu
    exact hu
/-- A row of the call's own, as texts. -/
theorem txrow_of {base : Nat} {w : World} {v : Value} {Q : List ByteArray} (h : w.ownsRow base 9 1 v Q.length (txs Q)) : ∃ a c, v = .slice a Q.length c ∧ Q.length ≤ c ∧ c ≤ 9223372036854775807 ∧ TxRow base w a Q := by
  rcases h.2 with ⟨rfl, h0⟩ | ⟨g, cap, cur, rfl, hb, hg, hc, hm, _⟩
  · exact ⟨none, 0, by rw [h0], by omega, by omega, .inl (List.eq_nil_of_length_eq_zero h0)⟩
  · refine ⟨_, cap, rfl, hc, hm, ?_⟩
    by_cases h0 : Q = []
    · exact .inl h0
    · refine .inr ⟨g, 0, rfl, hb, lt_of_block hg, fun j hj => ?_⟩
      have e : (txs Q)[j]? = some (.string (tx Q j)) := by simp [txs, tx, List.getD, hj]
      have := h.cells (g := g) rfl j _ e
      rwa [Addr.add_lit] at this

set_option maxRecDepth 100000 in
theorem joined_any (base b2 : Nat) (a a2 : Option Addr) (c c2 : Nat) (Q R : List ByteArray) (w : World) (h : TxRow base w a Q) (h2 : TxRow b2 w a2 R) (hQ : Q.length ≤ 1000) (hR : R.length ≤ 1000) :
    Calls Try.prog 20 #[.slice a Q.length c, .slice a2 R.length c2] w
      fun e w' => ∃ v', e = .returned v' ∧ w'.ownsRow w.heap.size 9 1 v' (Q ++ R).length (txs (Q ++ R)) ∧ Below w.heap.size w w' := by
  obtain ⟨i0, hi, hz0, hz1, hz2⟩ := info_parts Try.infoStr
  have HS : Hid _ := (h.src (c := c))
  have HT : Hid (TxRow b2 w a2 R) := h2
  clear h h2
  go_enter Try.func20, Try.ntmps20
  go_wp2_with (at_builtin; refine wpList_own_append _ rfl _ _ 22 22 rfl w.heap.size 9 i0 _ 16 Try.underlying22 hi hz0 hz1 hz2 rfl _ _ _ rfl (World.ownsRow_nil w w.heap.size 9 1) _ Q.length (txs Q) rfl HS.out ?c3 ?c4 ?c5 ?_)
  case c3 => unfold maxLen; omega
  case c4 => omega
  case c5 => exact Nat.le_refl _
  intro v1 w1 ha
  have hg := ha.grown
  have hb1 : Below w.heap.size w w1 := ⟨hg.os, hg.tape, hg.output, hg.size, fun k hk => hg.block k hk (by simp [Value.ownBlock])⟩
  have hr1 := ha.row
  have hT1 := (HT.out.carry hb1.size (fun k _ hk => hb1.block k hk)).src (c := c2)
  have HB1 : Hid (Below w.heap.size w w1 ∧ ∀ k, v1.ownBlock = some k → w.heap.size ≤ k) := ⟨hb1, fun k hk => (ha.row.lt k hk).1⟩
  obtain ⟨a', c', hv'⟩ := ha.shape
  have hsz := hb1.size
  try simp only [Nat.zero_add] at hv'
  subst hv'
  clear ha hg hb1
  go_wp2_with (at_builtin; refine wpList_own_append _ rfl _ _ 22 22 rfl w.heap.size 9 i0 _ 16 Try.underlying22 hi hz0 hz1 hz2 rfl _ _ _ rfl hr1 _ R.length (txs R) rfl hT1 ?c3 ?c4 ?c5 ?_)
  case c3 => unfold maxLen; omega
  case c4 => omega
  case c5 => exact hsz
  intro v2 w2 ha
  have hg := ha.grown
  have hr2 := ha.row
  obtain ⟨a'', c'', hv''⟩ := ha.shape
  subst hv''
  have H2 : Hid (w2.ownsRow w.heap.size 9 1 (.slice a'' (Q.length + R.length) c'') (Q ++ R).length (txs (Q ++ R)) ∧ Below w.heap.size w w2) := by
    refine ⟨by simpa [txs] using hr2, HB1.out.1.trans ⟨hg.os, hg.tape, hg.output, hg.size, fun k hk => hg.block k (by omega) (fun e => by have := HB1.out.2 k (by rw [← e]); omega)⟩⟩
  clear ha hg hr2 hT1 hr1
  go_wp2
  go_ret
  exact ⟨_, rfl, H2.out⟩

/-- A store into the queue's cell. -/
theorem LkAt.setQ {base : Nat} {w w1 : World} {p o : Nat} {l : Lk} {v : Value} {Q : List ByteArray} (h : LkAt base w p o l) (hb : Below w.heap.size w w1) (hr : w1.ownsRow w.heap.size 9 1 v Q.length (txs Q)) :
    LkAt base (w1.setCell ⟨p, o, none⟩ v) p o { l with q := Q } ∧ Chg w (w1.setCell ⟨p, o, none⟩ v) p o := by
  have h1 := h.below hb
  obtain ⟨a0, c0, q0, _⟩ := h1.q
  obtain ⟨a, c, rfl, hc, hm, hT⟩ := txrow_of hr
  have hnew : ∀ x, a = some x → w.heap.size ≤ x.block := fun x hx => (hr.lt x.block (by rw [hx]; rfl)).1
  have hC : Chg w (w1.setCell ⟨p, o, none⟩ (.slice a Q.length c)) p o := Chg.setQ hb h.lt q0 a _ c hnew
  refine ⟨⟨h1.lo, Nat.le_trans h.hi hC.size, ⟨a, c, set_same _ q0, hc, hm, ?_⟩, (set_other (by omega)).trans h1.k1, (set_other (by omega)).trans h1.k2, (set_other (by omega)).trans h1.k3, fun x => (hC.fz x).trans (h.fz x)⟩, hC⟩
  refine TxRow.carry (w := w1) (by
    rcases hT with h0 | ⟨b, o', e, e1, e2, e3⟩
    · exact .inl h0
    · exact .inr ⟨b, o', e, by have := h.hi; omega, e2, e3⟩) (by simp [World.setCell]) (fun k hk hk' => Below.heap_setCell _ _ _ _ (by have := h.lo; simp; omega))
theorem LkAt.setA {base : Nat} {w : World} {p o : Nat} {l : Lk} (h : LkAt base w p o l) (x : Int) : LkAt base (w.setCell ⟨p, o + 1, none⟩ (.int .i64 x)) p o { l with acked := x } ∧ Chg w (w.setCell ⟨p, o + 1, none⟩ (.int .i64 x)) p o := by
  have hC : Chg w (w.setCell ⟨p, o + 1, none⟩ (.int .i64 x)) p o := Chg.set _ (by omega) (by omega)
  obtain ⟨a, c, h1, h2, h3, h4⟩ := h.q
  exact ⟨⟨h.lo, Nat.le_trans h.hi hC.size, ⟨a, c, (set_other (by omega)).trans h1, h2, h3, h4.carry hC.size (fun k hk hk' => hC.block k hk' (by have := h.lo; omega))⟩, set_same _ h.k1, (set_other (by omega)).trans h.k2, (set_other (by omega)).trans h.k3, fun y => (hC.fz y).trans (h.fz y)⟩, hC⟩
theorem LkAt.setC {base : Nat} {w : World} {p o : Nat} {l : Lk} (h : LkAt base w p o l) (x : Int) : LkAt base (w.setCell ⟨p, o + 2, none⟩ (.int .i64 x)) p o { l with came := x } ∧ Chg w (w.setCell ⟨p, o + 2, none⟩ (.int .i64 x)) p o := by
  have hC : Chg w (w.setCell ⟨p, o + 2, none⟩ (.int .i64 x)) p o := Chg.set _ (by omega) (by omega)
  obtain ⟨a, c, h1, h2, h3, h4⟩ := h.q
  exact ⟨⟨h.lo, Nat.le_trans h.hi hC.size, ⟨a, c, (set_other (by omega)).trans h1, h2, h3, h4.carry hC.size (fun k hk hk' => hC.block k hk' (by have := h.lo; omega))⟩, (set_other (by omega)).trans h.k1, set_same _ h.k2, (set_other (by omega)).trans h.k3, fun y => (hC.fz y).trans (h.fz y)⟩, hC⟩
theorem LkAt.setO {base : Nat} {w : World} {p o : Nat} {l : Lk} (h : LkAt base w p o l) (x : Bool) : LkAt base (w.setCell ⟨p, o + 3, none⟩ (.bool x)) p o { l with owes := x } ∧ Chg w (w.setCell ⟨p, o + 3, none⟩ (.bool x)) p o := by
  have hC : Chg w (w.setCell ⟨p, o + 3, none⟩ (.bool x)) p o := Chg.set _ (by omega) (by omega)
  obtain ⟨a, c, h1, h2, h3, h4⟩ := h.q
  exact ⟨⟨h.lo, Nat.le_trans h.hi hC.size, ⟨a, c, (set_other (by omega)).trans h1, h2, h3, h4.carry hC.size (fun k hk hk' => hC.block k hk' (by have := h.lo; omega))⟩, (set_other (by omega)).trans h.k1, (set_other (by omega)).trans h.k2, set_same _ h.k3, fun y => (hC.fz y).trans (h.fz y)⟩, hC⟩

theorem push_long (p o : Nat) (s : ByteArray) (w : World) (hs : 1970 < s.size) (hm : s.size ≤ maxLen) :
    Calls Try.prog 7 #[.pointer (some ⟨p, o, none⟩), .string s] w fun e w' => e = .returned (.iface 59 (.int .i64 1)) ∧ w' = w := by
  unfold maxLen at hm
  go_enter Try.func7, Try.ntmps7
  go_wp2
  go_ret
  exact ⟨rfl, rfl⟩
theorem push_full (base p o : Nat) (l : Lk) (s : ByteArray) (w : World) (h : LkAt base w p o l) (hs : s.size ≤ 1970) (hq : 64 ≤ l.q.length) :
    Calls Try.prog 7 #[.pointer (some ⟨p, o, none⟩), .string s] w fun e w' => e = .returned (.iface 59 (.int .i64 4)) ∧ w' = w := by
  obtain ⟨a, c, h1, _⟩ := h.q
  clear h
  go_enter Try.func7, Try.ntmps7
  go_wp2
  go_ret
  exact ⟨rfl, rfl⟩
set_option maxRecDepth 100000 in
theorem push_ok (base p o : Nat) (l : Lk) (s : ByteArray) (w : World) (h : LkAt base w p o l) (hs : s.size ≤ 1970) (hq : l.q.length < 64) :
    Calls Try.prog 7 #[.pointer (some ⟨p, o, none⟩), .string s] w fun e w' => e = .returned .nilIface ∧ LkAt base w' p o { l with q := l.q ++ [s] } ∧ Chg w w' p o := by
  obtain ⟨a, c, h1, h2, h3, h4⟩ := h.q
  have hlt := h.lt
  have hT : TxRow base (w.alloc (.cells #[.string s] 9)) a l.q := h4.carry (by simp) (fun k _ hk => Below.heap_alloc w _ k hk)
  have hR : TxRow w.heap.size (w.alloc (.cells #[.string s] 9)) (some ⟨w.heap.size, 0, none⟩) [s] := .inr ⟨w.heap.size, 0, rfl, Nat.le_refl _, by simp, fun j hj => by
    obtain rfl : j = 0 := by simp at hj; omega
    simp [tx]⟩
  have hj := joined_any base w.heap.size a (some ⟨w.heap.size, 0, none⟩) c 1 l.q [s] _ hT hR (by omega) (by simp)
  have HH : Hid (LkAt base w p o l) := h
  have hfz := h.fz
  clear h h4 hT hR
  go_enter Try.func7, Try.ntmps7
  go_wp2_with fail
  refine hj.mono ?_
  rintro e w1 ⟨v, rfl, hr, hb⟩
  obtain ⟨hL, hC⟩ := (HH.out.alloc _).setQ hb hr
  obtain ⟨a', c', hv', _⟩ := txrow_of hr
  have h1' := (HH.out.alloc (.cells #[.string s] 9)).below hb
  obtain ⟨a1, c1, k1, _⟩ := h1'.q
  have kf := h1'.fz
  have hp1 := h1'.lt
  rw [List.length_append, List.length_singleton] at hv'
  subst hv'
  have HX : Hid (LkAt base (w1.setCell ⟨p, o, none⟩ (.slice a' (l.q.length + 1) c')) p o { l with q := l.q ++ [s] } ∧ Chg w (w1.setCell ⟨p, o, none⟩ (.slice a' (l.q.length + 1) c')) p o) := ⟨hL, (Chg.ofBelow ((Below.refl _ _).alloc (Nat.le_refl _) _) hlt).trans hC⟩
  clear hL hC hr hb h1' hj
  go_wp2
  go_ret
  exact ⟨rfl, HX.out⟩

theorem idle_any (base p o : Nat) (l : Lk) (w : World) (h : LkAt base w p o l) (hq : l.q.length ≤ 1000) :
    Calls Try.prog 12 #[.pointer (some ⟨p, o, none⟩)] w fun e w' => e = .returned (.bool (l.q.isEmpty && !l.owes)) ∧ w' = w := by
  obtain ⟨a, c, h1, _⟩ := h.q
  have h3 := h.k3
  clear h
  by_cases h0 : l.q = []
  · rw [h0] at h1 ⊢
    go_enter Try.func12, Try.ntmps12
    go_wp2
    go_ret
    exact ⟨ret_b (by simp), rfl⟩
  · obtain ⟨n, hn⟩ : ∃ n, l.q.length = n + 1 := ⟨l.q.length - 1, by have := List.length_pos_iff.2 h0; omega⟩
    have he : l.q.isEmpty = false := by simpa using h0
    rw [hn] at h1
    have hz : ((n : Int) + 1 == 0) = false := by simp; omega
    rw [he]
    clear h0 he hn
    go_enter Try.func12, Try.ntmps12
    go_wp2
    go_ret
    exact ⟨ret_b (by simp), rfl⟩
end Go.Proofs.Ytgbdnclolgdojaa
