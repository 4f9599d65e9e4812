/- Two ends, each in a block of its own: what each call does to both. -/
import Derived.Test.YtgbdnclolgdojaaLinkPk3
namespace Go.Proofs.Ytgbdnclolgdojaa
open Go.ChangeShapes Go.WideShapes Go.ChangeAt Go.RowKit
set_option linter.unusedVariables false

theorem lk_new {w : World} {p base : Nat} (h : w.heap[p]? = some (.cells #[.slice none 0 0, .int .i64 0, .int .i64 0, .bool false] 24 (0, 0))) (hp : p < base) (hb : base ≤ w.heap.size) : LkAt base w p 0 lk0 :=
  ⟨hp, hb, ⟨none, 0, by simp [World.cell?, h, lk0], by simp [lk0], by omega, .inl rfl⟩, by simp [World.cell?, h, lk0], by simp [World.cell?, h, lk0], by simp [World.cell?, h, lk0], fun k => by simp [World.frozen?, h]⟩
theorem lk0_ok : lk0.ok := ⟨by simp [lk0], by simp [lk0], by simp [lk0], by simp [lk0], by simp [lk0], by simp [lk0]⟩

/-- Rows from base on are as they were. -/
structure Keeps (base : Nat) (wr w' : World) : Prop where
  size : wr.heap.size ≤ w'.heap.size
  row : ∀ k, base ≤ k → k < wr.heap.size → w'.heap[k]? = wr.heap[k]?
theorem Keeps.refl (base : Nat) (w : World) : Keeps base w w := ⟨Nat.le_refl _, fun _ _ _ => rfl⟩
theorem Keeps.trans {base : Nat} {a b c : World} (h : Keeps base a b) (k : Keeps base b c) : Keeps base a c := ⟨Nat.le_trans h.size k.size, fun i hi hi' => (k.row i hi (Nat.lt_of_lt_of_le hi' h.size)).trans (h.row i hi hi')⟩
theorem Keeps.ofChg {base : Nat} {a b : World} {p o : Nat} (h : Chg a b p o) (hp : p < base) : Keeps base a b := ⟨h.size, fun k hk hk' => h.block k hk' (by omega)⟩
theorem Keeps.ofBelow {base : Nat} {a b : World} (h : Below a.heap.size a b) : Keeps base a b := ⟨h.size, fun k _ hk' => h.block k hk'⟩
theorem TxRow.keep {base : Nat} {w w' : World} {a : Option Addr} {Q : List ByteArray} (h : TxRow base w a Q) (hk : Keeps base w w') : TxRow base w' a Q := h.carry hk.size hk.row

structure Two (w wr : World) (x y : Lk) : Prop where
  a : LkAt (w.heap.size + 2) wr w.heap.size 0 x
  b : LkAt (w.heap.size + 2) wr (w.heap.size + 1) 0 y
  bel : Below w.heap.size w wr
  xo : x.ok
  yo : y.ok
theorem Two.below {w wr w' : World} {x y : Lk} (h : Two w wr x y) (hb : Below wr.heap.size wr w') : Two w w' x y := ⟨h.a.below hb, h.b.below hb, h.bel.trans (hb.mono h.bel.size), h.xo, h.yo⟩
theorem two_new (w : World) : Two w ((w.alloc (.cells #[.slice none 0 0, .int .i64 0, .int .i64 0, .bool false] 24)).alloc (.cells #[.slice none 0 0, .int .i64 0, .int .i64 0, .bool false] 24)) lk0 lk0 := by
  have h1 := heap_alloc_new w (.cells #[.slice none 0 0, .int .i64 0, .int .i64 0, .bool false] 24)
  have h2 := heap_alloc_new (w.alloc (.cells #[.slice none 0 0, .int .i64 0, .int .i64 0, .bool false] 24)) (.cells #[.slice none 0 0, .int .i64 0, .int .i64 0, .bool false] 24)
  have e : (w.alloc (.cells #[.slice none 0 0, .int .i64 0, .int .i64 0, .bool false] 24)).heap.size = w.heap.size + 1 := by simp
  rw [e] at h2
  exact ⟨lk_new ((Below.heap_alloc _ _ _ (by simp)).trans h1) (by omega) (by simp), lk_new h2 (by omega) (by simp), ((Below.refl _ _).alloc (Nat.le_refl _) _).alloc (by simp) _, lk0_ok, lk0_ok⟩

theorem got_ok {l : Lk} (h : l.ok) (n c : Int) (hc : c ≤ 1000000000000) (hm : l.came < 1000000000000) : (l.got n c).ok := by
  have hcf : (l.conf c).ok := by
    unfold Lk.conf
    split
    · rename_i hh
      exact ⟨by simp; have := h.len; omega, fun s hs => h.txt s (List.mem_of_mem_drop hs), by have := h.a0; show 0 ≤ c; omega, hc, h.c0, h.c1⟩
    · exact h
  have hc0 := h.c0
  unfold Lk.got
  split
  · exact hcf
  · split
    · exact ⟨hcf.len, hcf.txt, hcf.a0, hcf.a1, by show 0 ≤ l.came + 1; omega, by show l.came + 1 ≤ _; omega⟩
    · exact ⟨hcf.len, hcf.txt, hcf.a0, hcf.a1, hcf.c0, hcf.c1⟩
theorem push_lok {l : Lk} (h : l.ok) (s : ByteArray) (hs : s.size ≤ 1970) (hq : l.q.length < 64) : ({ l with q := l.q ++ [s] } : Lk).ok :=
  ⟨by simp; omega, fun t ht => by rcases List.mem_append.1 ht with h' | h'; exact h.txt t h'; rw [List.mem_singleton.1 h']; exact hs, h.a0, h.a1, h.c0, h.c1⟩
theorem owes_ok {l : Lk} (h : l.ok) (b : Bool) : ({ l with owes := b } : Lk).ok := ⟨h.len, h.txt, h.a0, h.a1, h.c0, h.c1⟩
/-- A packet's parts as they may be. -/
structure PkOk (n c : Int) (s : ByteArray) : Prop where
  n0 : -1 ≤ n
  n1 : n ≤ 1000000000000
  c0 : 0 ≤ c
  c1 : c ≤ 1000000000000
  t : s.size ≤ 2000
  e : n = -1 → s = ByteArray.empty

theorem push_a {w wr : World} {x y : Lk} (h : Two w wr x y) (s : ByteArray) (hs : s.size ≤ 1970) (hq : x.q.length < 64) :
    Calls Try.prog 7 #[.pointer (some ⟨w.heap.size, 0, none⟩), .string s] wr fun e w' => e = .returned .nilIface ∧ Two w w' { x with q := x.q ++ [s] } y ∧ Keeps (w.heap.size + 2) wr w' := by
  refine (push_ok _ _ 0 x s wr h.a hs hq).mono ?_
  rintro e w' ⟨rfl, l', hC⟩
  exact ⟨rfl, ⟨l', h.b.chg hC (by omega) (.inl (by omega)), hC.below h.bel (by omega) h.bel.size, push_lok h.xo s hs hq, h.yo⟩, Keeps.ofChg hC (by omega)⟩
theorem full_a {w wr : World} {x y : Lk} (h : Two w wr x y) (s : ByteArray) (hs : s.size ≤ 1970) (hq : 64 ≤ x.q.length) :
    Calls Try.prog 7 #[.pointer (some ⟨w.heap.size, 0, none⟩), .string s] wr fun e w' => e = .returned (.iface 59 (.int .i64 4)) ∧ w' = wr :=
  push_full _ _ 0 x s wr h.a hs hq
theorem packs_a {w wr : World} {x y : Lk} (h : Two w wr x y) :
    Calls Try.prog 8 #[.pointer (some ⟨w.heap.size, 0, none⟩)] wr fun e w' => ∃ (a : Option Addr) (c : Nat) (P : List ByteArray), e = .returned (.slice a P.length c) ∧ P.length ≤ c ∧ TxRow (w.heap.size + 2) w' a P ∧ bys P = x.out ∧ Two w w' { x with owes := false } y ∧ Keeps (w.heap.size + 2) wr w' := by
  refine (packets_any _ _ 0 x wr h.a h.xo).mono ?_
  rintro e w' ⟨v, P, rfl, hr, hP, l', hC, _⟩
  obtain ⟨a, c, rfl, hc, hm, hT⟩ := txrow_of hr
  refine ⟨a, c, P, rfl, hc, ?_, hP, ⟨l', h.b.chg hC (by omega) (.inl (by omega)), hC.below h.bel (by omega) h.bel.size, owes_ok h.xo false, h.yo⟩, Keeps.ofChg hC (by omega)⟩
  rcases hT with h0 | ⟨b, o', e, e1, e2, e3⟩
  · exact .inl h0
  · exact .inr ⟨b, o', e, by have := h.a.hi; omega, e2, e3⟩
theorem take_a {w wr : World} {x y : Lk} (h : Two w wr x y) {n c : Int} {s S : ByteArray} (hS : S.data.toList = pkB n c s) (hk : PkOk n c s) (hm : x.came < 1000000000000) :
    Calls Try.prog 9 #[.pointer (some ⟨w.heap.size, 0, none⟩), .string S] wr fun e w' => e = .returned (.tuple #[.string (x.ans n s).1, .bool (x.ans n s).2, .nilIface]) ∧ Two w w' (x.got n c) y ∧ Keeps (w.heap.size + 2) wr w' := by
  have hn0 := hk.n0
  have hn1 := hk.n1
  have hc0 := hk.c0
  have hc1 := hk.c1
  have ha := h.xo.a1
  have hcc := h.xo.c1
  refine (ltake_back _ _ 0 x n c s S wr h.a h.xo.len h.xo.a0 (by omega) h.xo.c0 (by omega) hS (by unfold i64; omega) (by unfold i64; omega) hk.t hn0 hc0 hk.e).mono ?_
  rintro e w' ⟨rfl, l', hC⟩
  exact ⟨rfl, ⟨l', h.b.chg hC (by omega) (.inl (by omega)), hC.below h.bel (by omega) h.bel.size, got_ok h.xo n c hc1 hm, h.yo⟩, Keeps.ofChg hC (by omega)⟩
theorem idle_a {w wr : World} {x y : Lk} (h : Two w wr x y) :
    Calls Try.prog 12 #[.pointer (some ⟨w.heap.size, 0, none⟩)] wr fun e w' => e = .returned (.bool (x.q.isEmpty && !x.owes)) ∧ w' = wr :=
  idle_any _ _ 0 x wr h.a (by have := h.xo.len; omega)

theorem push_b {w wr : World} {x y : Lk} (h : Two w wr x y) (s : ByteArray) (hs : s.size ≤ 1970) (hq : y.q.length < 64) :
    Calls Try.prog 7 #[.pointer (some ⟨w.heap.size + 1, 0, none⟩), .string s] wr fun e w' => e = .returned .nilIface ∧ Two w w' x { y with q := y.q ++ [s] } ∧ Keeps (w.heap.size + 2) wr w' := by
  refine (push_ok _ _ 0 y s wr h.b hs hq).mono ?_
  rintro e w' ⟨rfl, l', hC⟩
  exact ⟨rfl, ⟨h.a.chg hC (by omega) (.inl (by omega)), l', hC.below h.bel (by omega) h.bel.size, h.xo, push_lok h.yo s hs hq⟩, Keeps.ofChg hC (by omega)⟩
theorem full_b {w wr : World} {x y : Lk} (h : Two w wr x y) (s : ByteArray) (hs : s.size ≤ 1970) (hq : 64 ≤ y.q.length) :
    Calls Try.prog 7 #[.pointer (some ⟨w.heap.size + 1, 0, none⟩), .string s] wr fun e w' => e = .returned (.iface 59 (.int .i64 4)) ∧ w' = wr :=
  push_full _ _ 0 y s wr h.b hs hq
theorem packs_b {w wr : World} {x y : Lk} (h : Two w wr x y) :
    Calls Try.prog 8 #[.pointer (some ⟨w.heap.size + 1, 0, none⟩)] wr fun e w' => ∃ (a : Option Addr) (c : Nat) (P : List ByteArray), e = .returned (.slice a P.length c) ∧ P.length ≤ c ∧ TxRow (w.heap.size + 2) w' a P ∧ bys P = y.out ∧ Two w w' x { y with owes := false } ∧ Keeps (w.heap.size + 2) wr w' := by
  refine (packets_any _ _ 0 y wr h.b h.yo).mono ?_
  rintro e w' ⟨v, P, rfl, hr, hP, l', hC, _⟩
  obtain ⟨a, c, rfl, hc, hm, hT⟩ := txrow_of hr
  refine ⟨a, c, P, rfl, hc, ?_, hP, ⟨h.a.chg hC (by omega) (.inl (by omega)), l', hC.below h.bel (by omega) h.bel.size, h.xo, owes_ok h.yo false⟩, Keeps.ofChg hC (by omega)⟩
  rcases hT with h0 | ⟨b, o', e, e1, e2, e3⟩
  · exact .inl h0
  · exact .inr ⟨b, o', e, by have := h.b.hi; omega, e2, e3⟩
theorem take_b {w wr : World} {x y : Lk} (h : Two w wr x y) {n c : Int} {s S : ByteArray} (hS : S.data.toList = pkB n c s) (hk : PkOk n c s) (hm : y.came < 1000000000000) :
    Calls Try.prog 9 #[.pointer (some ⟨w.heap.size + 1, 0, none⟩), .string S] wr fun e w' => e = .returned (.tuple #[.string (y.ans n s).1, .bool (y.ans n s).2, .nilIface]) ∧ Two w w' x (y.got n c) ∧ Keeps (w.heap.size + 2) wr w' := by
  have hn0 := hk.n0
  have hn1 := hk.n1
  have hc0 := hk.c0
  have hc1 := hk.c1
  have ha := h.yo.a1
  have hcc := h.yo.c1
  refine (ltake_back _ _ 0 y n c s S wr h.b h.yo.len h.yo.a0 (by omega) h.yo.c0 (by omega) hS (by unfold i64; omega) (by unfold i64; omega) hk.t hn0 hc0 hk.e).mono ?_
  rintro e w' ⟨rfl, l', hC⟩
  exact ⟨rfl, ⟨h.a.chg hC (by omega) (.inl (by omega)), l', hC.below h.bel (by omega) h.bel.size, h.xo, got_ok h.yo n c hc1 hm⟩, Keeps.ofChg hC (by omega)⟩
theorem idle_b {w wr : World} {x y : Lk} (h : Two w wr x y) :
    Calls Try.prog 12 #[.pointer (some ⟨w.heap.size + 1, 0, none⟩)] wr fun e w' => e = .returned (.bool (y.q.isEmpty && !y.owes)) ∧ w' = wr :=
  idle_any _ _ 0 y wr h.b (by have := h.yo.len; omega)

/-- Cells of a row of texts. -/
theorem TxRow.get {base : Nat} {w : World} {a : Option Addr} {P : List ByteArray} (h : TxRow base w a P) (j : Nat) (hj : j < P.length) : ∃ b o, a = some ⟨b, o, none⟩ ∧ b < w.heap.size ∧ base ≤ b ∧ ∀ j, j < P.length → w.cell? ⟨b, o + j, none⟩ = some (.string (tx P j)) := by
  rcases h with h0 | ⟨b, o, e, e1, e2, e3⟩
  · rw [h0] at hj; simp at hj
  · exact ⟨b, o, e, e2, e1, e3⟩
theorem bys_get {P : List ByteArray} {L : List (List UInt8)} (h : bys P = L) (j : Nat) (hj : j < P.length) : (tx P j).data.toList = L.getD j [] := by
  rw [← h]; simp [bys, tx, List.getD, hj]
theorem bys_len {P : List ByteArray} {L : List (List UInt8)} (h : bys P = L) : P.length = L.length := by rw [← h]; simp [bys]

def tA : ByteArray := { data := #[97] }
def tB : ByteArray := { data := #[98] }
set_option maxRecDepth 100000 in
set_option maxHeartbeats 1000000 in
theorem lawake_any (w : World) : Calls Try.prog 10 #[] w fun e w' => e = .returned (.bool true) ∧ Below w.heap.size w w' := by
  go_enter Try.func10, Try.ntmps10
  go_wp2_with fail
  refine (push_a (two_new w) { data := #[97] } (by decide) (by decide)).mono ?_
  rintro e w1 ⟨rfl, h1, _⟩
  go_wp2_with fail
  refine (push_a h1 { data := #[98] } (by decide) (by decide)).mono ?_
  rintro e w2 ⟨rfl, h2, _⟩
  clear h1
  go_wp2_with fail
  refine (packs_a h2).mono ?_
  rintro e w3 ⟨a, c, P, rfl, hc, hT, hP, h3, _⟩
  have hP' : bys P = [pkB 0 0 tA, pkB 1 0 tB] := hP
  have hl : P.length = 2 := bys_len hP'
  obtain ⟨b, o, ha, hb, hbase, hcells⟩ := hT.get 0 (by omega)
  subst ha
  have c0 := hcells 0 (by omega)
  have c1 := hcells 1 (by omega)
  have e0 : (tx P 0).data.toList = pkB 0 0 tA := bys_get hP' 0 (by omega)
  have e1 : (tx P 1).data.toList = pkB 1 0 tB := bys_get hP' 1 (by omega)
  rw [hl]
  obtain ⟨p0, hp0⟩ : ∃ p, p = tx P 0 := ⟨_, rfl⟩
  obtain ⟨p1, hp1⟩ : ∃ p, p = tx P 1 := ⟨_, rfl⟩
  rw [← hp0] at c0 e0
  rw [← hp1] at c1 e1
  rw [hl] at hc
  simp only [Nat.add_zero] at c0
  have HT : Hid (TxRow (w.heap.size + 2) w3 (some ⟨b, o, none⟩) P) := hT
  clear h2 hP hP' hcells hp0 hp1 hT
  go_wp2_with fail
  refine (take_b h3 (n := 1) (c := 0) (s := tB) e1 ⟨by decide, by decide, by decide, by decide, by decide, fun h => by cases h⟩ (by decide)).mono ?_
  rintro e w4 ⟨he, h4, k4⟩
  have he' : e = .returned (.tuple #[.string ByteArray.empty, .bool false, .nilIface]) := he
  subst he'
  have d0 := (World.cell?_of_block (a := ⟨b, o, none⟩) (k4.row b hbase hb)).trans c0
  clear he h3 k4 e1
  go_wp2_with fail
  refine (take_b h4 (n := 0) (c := 0) (s := tA) e0 ⟨by decide, by decide, by decide, by decide, by decide, fun h => by cases h⟩ (by decide)).mono ?_
  rintro e w5 ⟨he, h5, k5⟩
  have he' : e = .returned (.tuple #[.string { data := #[97] }, .bool true, .nilIface]) := he
  subst he'
  have k2 := h5.b.k2
  have HB5 : Hid _ := h5
  clear he h4 k5 e0
  have k2' : w5.cell? ⟨w.heap.size + 1, 2, none⟩ = some (.int .i64 1) := k2
  clear k2 h5
  go_wp2_with (go_at_call 12; refine (idle_b HB5.out).mono ?_; rintro e w' ⟨rfl, rfl⟩)
  go_ret
  exact ⟨ret_b rfl, HB5.out.bel⟩
end Go.Proofs.Ytgbdnclolgdojaa
