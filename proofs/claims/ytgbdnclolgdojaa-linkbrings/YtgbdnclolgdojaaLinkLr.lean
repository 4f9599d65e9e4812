/- Two ends, and rows of texts of one's own that grow beside them. -/
import Derived.Test.YtgbdnclolgdojaaLinkInv
namespace Go.Proofs.Ytgbdnclolgdojaa
open Go.ChangeShapes Go.WideShapes Go.ChangeAt Go.RowKit
set_option linter.unusedVariables false

def updR {α : Type} (X : Nat → α) (i : Nat) (Y : α) : Nat → α := fun k => if k = i then Y else X k
theorem updR_same {α : Type} (X : Nat → α) (i : Nat) (Y : α) : updR X i Y i = Y := by simp [updR]
theorem updR_other {α : Type} (X : Nat → α) {i k : Nat} (Y : α) (h : k ≠ i) : updR X i Y k = X k := by simp [updR, h]
/-- Two ends and m rows. -/
structure Lrw (w wr : World) (m : Nat) (V : Nat → Value) (L : Nat → List ByteArray) (x y : Lk) : Prop where
  two : Two w wr x y
  own : ∀ i, i < m → wr.ownsRow (w.heap.size + 2) 9 1 (V i) (L i).length (txs (L i))
  ap : ∀ i j, i < m → j < m → i ≠ j → ∀ b, (V i).ownBlock = some b → (V j).ownBlock ≠ some b
  ca : ∀ p, p = w.heap.size ∨ p = w.heap.size + 1 → ∀ a n c, wr.cell? ⟨p, 0, none⟩ = some (.slice a n c) → n = 0 ∨ ∀ z, a = some z → ∀ i, i < m → (V i).ownBlock ≠ some z.block
theorem Lrw.size {w wr : World} {m : Nat} {V : Nat → Value} {L : Nat → List ByteArray} {x y : Lk} (h : Lrw w wr m V L x y) : w.heap.size + 2 ≤ wr.heap.size := h.two.a.hi
theorem Lrw.new (w : World) : Lrw w ((w.alloc (.cells #[.slice none 0 0, .int .i64 0, .int .i64 0, .bool false] 24)).alloc (.cells #[.slice none 0 0, .int .i64 0, .int .i64 0, .bool false] 24)) 0 (fun _ => .slice none 0 0) (fun _ => []) lk0 lk0 :=
  ⟨two_new w, fun i hi => absurd hi (Nat.not_lt_zero _), fun i j hi => absurd hi (Nat.not_lt_zero _), fun p hp a n c hc => .inr (fun z hz i hi => absurd hi (Nat.not_lt_zero _))⟩
theorem Lrw.below {w wr w' : World} {m : Nat} {V : Nat → Value} {L : Nat → List ByteArray} {x y : Lk} (h : Lrw w wr m V L x y) (hb : Below wr.heap.size wr w') : Lrw w w' m V L x y := by
  have hs := h.size
  refine ⟨h.two.below hb, fun i hi => row_carry1 (h.own i hi) hb, h.ap, fun p hp a n c hc => h.ca p hp a n c ?_⟩
  rw [← hc]; exact (hb.cell (p := ⟨p, 0, none⟩) (by show p < wr.heap.size; omega)).symm
/-- A call on one of the ends leaves the rows. -/
theorem Lrw.chg {w wr w' : World} {m : Nat} {V : Nat → Value} {L : Nat → List ByteArray} {x y x' y' : Lk} {p : Nat} (h : Lrw w wr m V L x y) (t : Two w w' x' y') (hc : Chg wr w' p 0) (hp : p = w.heap.size ∨ p = w.heap.size + 1) : Lrw w w' m V L x' y' := by
  have hs := h.size
  refine ⟨t, fun i hi => ?_, h.ap, fun q hq a n c hcell => ?_⟩
  · have ho := h.own i hi
    refine ⟨ho.1, ?_⟩
    rcases ho.2 with h0 | ⟨g, cap, cur, hv, hb, hg, r⟩
    · exact .inl h0
    · exact .inr ⟨g, cap, cur, hv, hb, (hc.block g (lt_of_block hg) (by omega)).trans hg, r⟩
  · by_cases e : q = p
    · subst e
      rcases hc.qn with e2 | ⟨a2, n2, c2, e2, hb2⟩
      · exact h.ca q hq a n c (e2.symm.trans hcell)
      · rw [e2] at hcell
        simp only [Option.some.injEq, Value.slice.injEq] at hcell
        obtain ⟨rfl, rfl, rfl⟩ := hcell
        refine .inr (fun z hz i hi hb => ?_)
        have h1 := hb2 z hz
        have h2 := ((h.own i hi).lt z.block hb).2
        omega
    · refine h.ca q hq a n c ?_
      rw [← hcell]
      exact (World.cell?_of_block (a := ⟨q, 0, none⟩) (hc.block q (by omega) e)).symm
theorem Lrw.push_a {w wr : World} {m : Nat} {V : Nat → Value} {L : Nat → List ByteArray} {x y : Lk} (h : Lrw w wr m V L x y) (s : ByteArray) (hs : s.size ≤ 1970) (hq : x.q.length < 64) :
    Calls Try.prog 7 #[.pointer (some ⟨w.heap.size, 0, none⟩), .string s] wr fun e w' => e = .returned .nilIface ∧ Lrw w w' m V L { x with q := x.q ++ [s] } y := by
  refine (push_ok _ _ 0 x s wr h.two.a hs hq).mono ?_
  rintro e w' ⟨rfl, l', hC⟩
  exact ⟨rfl, h.chg ⟨l', h.two.b.chg hC (by omega) (.inl (by omega)), hC.below h.two.bel (by omega) h.two.bel.size, push_lok h.two.xo s hs hq, h.two.yo⟩ hC (.inl rfl)⟩
theorem Lrw.push_b {w wr : World} {m : Nat} {V : Nat → Value} {L : Nat → List ByteArray} {x y : Lk} (h : Lrw w wr m V L x y) (s : ByteArray) (hs : s.size ≤ 1970) (hq : y.q.length < 64) :
    Calls Try.prog 7 #[.pointer (some ⟨w.heap.size + 1, 0, none⟩), .string s] wr fun e w' => e = .returned .nilIface ∧ Lrw w w' m V L x { y with q := y.q ++ [s] } := by
  refine (push_ok _ _ 0 y s wr h.two.b hs hq).mono ?_
  rintro e w' ⟨rfl, l', hC⟩
  exact ⟨rfl, h.chg ⟨h.two.a.chg hC (by omega) (.inl (by omega)), l', hC.below h.two.bel (by omega) h.two.bel.size, h.two.xo, push_lok h.two.yo s hs hq⟩ hC (.inr rfl)⟩
/-- A new row takes the place of one. -/
theorem Lrw.lay {w w' : World} {m : Nat} {V : Nat → Value} {L : Nat → List ByteArray} {x y : Lk} {B : Nat} (h : Lrw w w' m V L x y) (hB : w.heap.size + 2 ≤ B) (hold : ∀ j, j < m → ∀ b, (V j).ownBlock = some b → b < B)
    (hq : ∀ p, p = w.heap.size ∨ p = w.heap.size + 1 → ∀ a n c, w'.cell? ⟨p, 0, none⟩ = some (.slice a n c) → n = 0 ∨ ∀ z, a = some z → z.block < B) {i : Nat} {v : Value} {P : List ByteArray} (hv : w'.ownsRow B 9 1 v P.length (txs P)) : Lrw w w' (max m (i + 1)) (updR V i v) (updR L i P) x y ∨ m < i := by
  rcases Nat.lt_or_ge m i with hmi | hmi
  · exact .inr hmi
  refine .inl ⟨h.two, fun j hj => ?_, fun j k hj hk hne b hb => ?_, fun p hp a n c hc => ?_⟩
  · by_cases e : j = i
    · subst e; rw [updR_same, updR_same]
      refine ⟨hv.1, ?_⟩
      rcases hv.2 with h0 | ⟨g, cap, cur, hv', hb, r⟩
      · exact .inl h0
      · exact .inr ⟨g, cap, cur, hv', by omega, r⟩
    · rw [updR_other _ _ e, updR_other _ _ e]; exact h.own j (by omega)
  · by_cases e : j = i
    · subst e
      rw [updR_same] at hb
      rw [updR_other _ _ (Ne.symm hne)]
      intro hb'
      have h1 := (hv.lt b hb).1
      have h2 := hold k (by omega) b hb'
      omega
    · rw [updR_other _ _ e] at hb
      by_cases e2 : k = i
      · subst e2
        rw [updR_same]
        intro hb'
        have h1 := (hv.lt b hb').1
        have h2 := hold j (by omega) b hb
        omega
      · rw [updR_other _ _ e2]; exact h.ap j k (by omega) (by omega) hne b hb
  · rcases h.ca p hp a n c hc with h0 | h0
    · exact .inl h0
    · rcases hq p hp a n c hc with q0 | q0
      · exact .inl q0
      refine .inr (fun z hz j hj hb => ?_)
      by_cases e : j = i
      · subst e
        rw [updR_same] at hb
        have h1 := (hv.lt _ hb).1
        have h2 := q0 z hz
        omega
      · rw [updR_other _ _ e] at hb
        exact h0 z hz j (by omega) hb
/-- Where the queues' rows lie. -/
theorem Two.qlt {w wr : World} {x y : Lk} (h : Two w wr x y) : ∀ p, p = w.heap.size ∨ p = w.heap.size + 1 → ∀ a n c, wr.cell? ⟨p, 0, none⟩ = some (.slice a n c) → n = 0 ∨ ∀ z, a = some z → z.block < wr.heap.size := by
  intro p hp a n c hc
  have aux : ∀ {p : Nat} {l : Lk}, LkAt (w.heap.size + 2) wr p 0 l → wr.cell? ⟨p, 0, none⟩ = some (.slice a n c) → n = 0 ∨ ∀ z, a = some z → z.block < wr.heap.size := by
    intro p l hl hc
    obtain ⟨a', c', h1, _, _, hT⟩ := hl.q
    rw [h1] at hc
    simp only [Option.some.injEq, Value.slice.injEq] at hc
    obtain ⟨rfl, rfl, rfl⟩ := hc
    rcases hT with h0 | ⟨b, o, ha, _, hb, _⟩
    · exact .inl (by rw [h0]; rfl)
    · refine .inr (fun z hz => ?_)
      rw [ha] at hz; cases hz; exact hb
  rcases hp with rfl | rfl
  · exact aux h.a hc
  · exact aux h.b hc
theorem Lrw.packs {w wr w' : World} {m : Nat} {V : Nat → Value} {L : Nat → List ByteArray} {x y x' y' : Lk} {p : Nat} (h : Lrw w wr m V L x y) (t : Two w w' x' y') (hc : Chg wr w' p 0) (hp : p = w.heap.size ∨ p = w.heap.size + 1) (hqs : w'.cell? ⟨p, 0, none⟩ = wr.cell? ⟨p, 0, none⟩) {i : Nat} (hi : i ≤ m) {v : Value} {P : List ByteArray} (hv : w'.ownsRow wr.heap.size 9 1 v P.length (txs P)) : Lrw w w' (max m (i + 1)) (updR V i v) (updR L i P) x' y' := by
  have hs := h.size
  have hqq : ∀ q, q = w.heap.size ∨ q = w.heap.size + 1 → ∀ a n c, w'.cell? ⟨q, 0, none⟩ = some (.slice a n c) → n = 0 ∨ ∀ z, a = some z → z.block < wr.heap.size := by
    intro q hq a n c hcell
    refine h.two.qlt q hq a n c ?_
    rw [← hcell]
    by_cases e : q = p
    · subst e; exact hqs.symm
    · exact (World.cell?_of_block (a := ⟨q, 0, none⟩) (hc.block q (by omega) e)).symm
  rcases (h.chg t hc hp).lay hs (fun j hj b hb => ((h.own j hj).lt b hb).2) hqq (i := i) hv with r | r
  · exact r
  · omega
theorem Lrw.packs_a {w wr : World} {m : Nat} {V : Nat → Value} {L : Nat → List ByteArray} {x y : Lk} (h : Lrw w wr m V L x y) (i : Nat) (hi : i ≤ m) :
    Calls Try.prog 8 #[.pointer (some ⟨w.heap.size, 0, none⟩)] wr fun e w' => ∃ (a : Option Addr) (c : Nat) (P : List ByteArray), e = .returned (.slice a P.length c) ∧ bys P = x.out ∧ Lrw w w' (max m (i + 1)) (updR V i (.slice a P.length c)) (updR L i P) { x with owes := false } y := by
  refine (packets_any _ _ 0 x wr h.two.a h.two.xo).mono ?_
  rintro e w' ⟨v, P, rfl, hr, hP, l', hC, hqs⟩
  obtain ⟨a, c, rfl, hc, hm, hT⟩ := txrow_of hr
  exact ⟨a, c, P, rfl, hP, h.packs ⟨l', h.two.b.chg hC (by omega) (.inl (by omega)), hC.below h.two.bel (by omega) h.two.bel.size, owes_ok h.two.xo false, h.two.yo⟩ hC (.inl rfl) hqs hi hr⟩
theorem Lrw.packs_b {w wr : World} {m : Nat} {V : Nat → Value} {L : Nat → List ByteArray} {x y : Lk} (h : Lrw w wr m V L x y) (i : Nat) (hi : i ≤ m) :
    Calls Try.prog 8 #[.pointer (some ⟨w.heap.size + 1, 0, none⟩)] wr fun e w' => ∃ (a : Option Addr) (c : Nat) (P : List ByteArray), e = .returned (.slice a P.length c) ∧ bys P = y.out ∧ Lrw w w' (max m (i + 1)) (updR V i (.slice a P.length c)) (updR L i P) x { y with owes := false } := by
  refine (packets_any _ _ 0 y wr h.two.b h.two.yo).mono ?_
  rintro e w' ⟨v, P, rfl, hr, hP, l', hC, hqs⟩
  obtain ⟨a, c, rfl, hc, hm, hT⟩ := txrow_of hr
  exact ⟨a, c, P, rfl, hP, h.packs ⟨h.two.a.chg hC (by omega) (.inl (by omega)), l', hC.below h.two.bel (by omega) h.two.bel.size, h.two.xo, owes_ok h.two.yo false⟩ hC (.inr rfl) hqs hi hr⟩
theorem Lrw.take_a {w wr : World} {m : Nat} {V : Nat → Value} {L : Nat → List ByteArray} {x y : Lk} (h : Lrw w wr m V L x y) {n c : Int} {s S : ByteArray} (hS : S.data.toList = pkB n c s) (hk : PkOk n c s) (hm : x.came < 1000000000000) :
    Calls Try.prog 9 #[.pointer (some ⟨w.heap.size, 0, none⟩), .string S] wr fun e w' => e = .returned (.tuple #[.string (x.ans n s).1, .bool (x.ans n s).2, .nilIface]) ∧ Lrw w w' m V L (x.got n c) y := by
  have hn0 := hk.n0
  have hn1 := hk.n1
  have hc0 := hk.c0
  have hc1 := hk.c1
  have ha := h.two.xo.a1
  have hcc := h.two.xo.c1
  refine (ltake_back _ _ 0 x n c s S wr h.two.a h.two.xo.len h.two.xo.a0 (by omega) h.two.xo.c0 (by omega) hS (by unfold i64; omega) (by unfold i64; omega) hk.t hn0 hc0 hk.e).mono ?_
  rintro e w' ⟨rfl, l', hC⟩
  exact ⟨rfl, h.chg ⟨l', h.two.b.chg hC (by omega) (.inl (by omega)), hC.below h.two.bel (by omega) h.two.bel.size, got_ok h.two.xo n c hc1 hm, h.two.yo⟩ hC (.inl rfl)⟩
theorem Lrw.take_b {w wr : World} {m : Nat} {V : Nat → Value} {L : Nat → List ByteArray} {x y : Lk} (h : Lrw w wr m V L x y) {n c : Int} {s S : ByteArray} (hS : S.data.toList = pkB n c s) (hk : PkOk n c s) (hm : y.came < 1000000000000) :
    Calls Try.prog 9 #[.pointer (some ⟨w.heap.size + 1, 0, none⟩), .string S] wr fun e w' => e = .returned (.tuple #[.string (y.ans n s).1, .bool (y.ans n s).2, .nilIface]) ∧ Lrw w w' m V L x (y.got n c) := by
  have hn0 := hk.n0
  have hn1 := hk.n1
  have hc0 := hk.c0
  have hc1 := hk.c1
  have ha := h.two.yo.a1
  have hcc := h.two.yo.c1
  refine (ltake_back _ _ 0 y n c s S wr h.two.b h.two.yo.len h.two.yo.a0 (by omega) h.two.yo.c0 (by omega) hS (by unfold i64; omega) (by unfold i64; omega) hk.t hn0 hc0 hk.e).mono ?_
  rintro e w' ⟨rfl, l', hC⟩
  exact ⟨rfl, h.chg ⟨h.two.a.chg hC (by omega) (.inl (by omega)), l', hC.below h.two.bel (by omega) h.two.bel.size, h.two.xo, got_ok h.two.yo n c hc1 hm⟩ hC (.inr rfl)⟩
/-- A row of one's own begins. -/
theorem Lrw.start {w wr : World} {m : Nat} {V : Nat → Value} {L : Nat → List ByteArray} {x y : Lk} (h : Lrw w wr m V L x y) : Lrw w (wr.alloc (.cells #[] 9)) (m + 1) (updR V m (.slice (some ⟨wr.heap.size, 0, none⟩) 0 0)) (updR L m []) x y := by
  have hs := h.size
  have hb : Below wr.heap.size wr (wr.alloc (.cells #[] 9)) := (Below.refl _ _).alloc (Nat.le_refl _) _
  have h' := h.below hb
  have hv : (wr.alloc (.cells #[] 9)).ownsRow wr.heap.size 9 1 (.slice (some ⟨wr.heap.size, 0, none⟩) 0 0) ([] : List ByteArray).length (txs []) := ⟨rfl, .inr ⟨wr.heap.size, 0, #[], rfl, Nat.le_refl _, heap_alloc_new wr _, Nat.le_refl _, Nat.zero_le _, rfl, rfl⟩⟩
  have hqq : ∀ q, q = w.heap.size ∨ q = w.heap.size + 1 → ∀ a n c, (wr.alloc (.cells #[] 9)).cell? ⟨q, 0, none⟩ = some (.slice a n c) → n = 0 ∨ ∀ z, a = some z → z.block < wr.heap.size := by
    intro q hq a n c hcell
    refine h.two.qlt q hq a n c ?_
    rw [← hcell]
    exact (hb.cell (p := ⟨q, 0, none⟩) (by show q < wr.heap.size; omega)).symm
  rcases h'.lay hs (fun j hj b hb' => ((h.own j hj).lt b hb').2) hqq (i := m) hv with r | r
  · rw [Nat.max_eq_right (Nat.le_succ m)] at r; exact r
  · omega
/-- An end behind the growth of another row. -/
theorem LkAt.grow {base : Nat} {w w' : World} {p : Nat} {l : Lk} {g : Option Nat} (h : LkAt base w p 0 l) (hg : w.grownBy w' g) (hp : g ≠ some p) (hq : ∀ a n c, w.cell? ⟨p, 0, none⟩ = some (.slice a n c) → n = 0 ∨ ∀ z, a = some z → g ≠ some z.block) : LkAt base w' p 0 l := by
  have hbk : w'.heap[p]? = w.heap[p]? := hg.block p h.lt (Ne.symm hp)
  have hc : ∀ x, w'.cell? ⟨p, x, none⟩ = w.cell? ⟨p, x, none⟩ := fun x => World.cell?_of_block (a := ⟨p, x, none⟩) hbk
  obtain ⟨a, c, h1, h2, h3, h4⟩ := h.q
  refine ⟨h.lo, Nat.le_trans h.hi hg.size, ⟨a, c, (hc _).trans h1, h2, h3, ?_⟩, (hc _).trans h.k1, (hc _).trans h.k2, (hc _).trans h.k3, fun x => (World.frozen?_of_block (a := ⟨p, x, none⟩) hbk).trans (h.fz x)⟩
  rcases h4 with h0 | ⟨b, o, ha, hb1, hb2, hcell⟩
  · exact .inl h0
  · rcases hq a _ c h1 with q | q
    · exact .inl (List.eq_nil_of_length_eq_zero q)
    · have hne := q _ ha
      exact .inr ⟨b, o, ha, hb1, Nat.lt_of_lt_of_le hb2 hg.size, fun j hj => (World.cell?_of_block (a := ⟨b, o + j, none⟩) (hg.block b hb2 (Ne.symm hne))).trans (hcell j hj)⟩
/-- A text more in a row. -/
theorem Lrw.app {w wr w' : World} {m : Nat} {V : Nat → Value} {L : Nat → List ByteArray} {x y : Lk} {i k : Nat} {v' : Value} {xs : List Value} {s : ByteArray} (h : Lrw w wr m V L x y) (hi : i < m) (hk : k = (L i ++ [s]).length) (hxs : xs = txs (L i ++ [s]))
    (ha : Appended (w.heap.size + 2) 9 wr w' (V i) v' k xs) : Lrw w w' m (updR V i v') (updR L i (L i ++ [s])) x y := by
  subst hk hxs
  have hs := h.size
  have hg := ha.grown
  have hlo : ∀ b, (V i).ownBlock = some b → w.heap.size + 2 ≤ b := fun b hb => ((h.own i hi).lt b hb).1
  have hbel : Below w.heap.size wr w' := ⟨hg.os, hg.tape, hg.output, hg.size, fun b hb => hg.block b (by omega) (fun e => by have := hlo b e.symm; omega)⟩
  have hca : ∀ p, p = w.heap.size ∨ p = w.heap.size + 1 → ∀ a n c, wr.cell? ⟨p, 0, none⟩ = some (.slice a n c) → n = 0 ∨ ∀ z, a = some z → (V i).ownBlock ≠ some z.block := fun p hp a n c hc => (h.ca p hp a n c hc).imp id (fun q z hz => q z hz i hi)
  have hne : ∀ p, p = w.heap.size ∨ p = w.heap.size + 1 → (V i).ownBlock ≠ some p := fun p hp e => by have := hlo p e; omega
  refine ⟨⟨h.two.a.grow hg (hne _ (.inl rfl)) (hca _ (.inl rfl)), h.two.b.grow hg (hne _ (.inr rfl)) (hca _ (.inr rfl)), h.two.bel.trans hbel, h.two.xo, h.two.yo⟩, fun j hj => ?_, fun j k hj hk hjk b hb => ?_, fun p hp a n c hc => ?_⟩
  · by_cases e : j = i
    · subst e; rw [updR_same, updR_same]; exact ha.row
    · rw [updR_other _ _ e, updR_other _ _ e]
      have ho := h.own j hj
      refine ⟨ho.1, ?_⟩
      rcases ho.2 with h0 | ⟨g, cap, cur, hv, hb, hgg, r⟩
      · exact .inl h0
      · refine .inr ⟨g, cap, cur, hv, hb, (hg.block g (lt_of_block hgg) (fun e2 => ?_)).trans hgg, r⟩
        exact h.ap i j hi hj (Ne.symm e) g e2.symm (by rw [hv]; rfl)
  · by_cases e : j = i
    · subst e
      rw [updR_same] at hb
      rw [updR_other _ _ (Ne.symm hjk)]
      rcases ha.new b hb with q | q
      · exact h.ap j k hj hk hjk b q
      · intro hb'; have := ((h.own k hk).lt b hb').2; omega
    · rw [updR_other _ _ e] at hb
      by_cases e2 : k = i
      · subst e2
        rw [updR_same]
        intro hb'
        rcases ha.new b hb' with q | q
        · exact h.ap j k hj hk hjk b hb q
        · have := ((h.own j hj).lt b hb).2; omega
      · rw [updR_other _ _ e2]; exact h.ap j k hj hk hjk b hb
  · have hc' : wr.cell? ⟨p, 0, none⟩ = some (.slice a n c) := by
      rw [← hc]
      exact (World.cell?_of_block (a := ⟨p, 0, none⟩) (hg.block p (by omega) (Ne.symm (hne p hp)))).symm
    rcases h.ca p hp a n c hc' with q | q
    · exact .inl q
    · rcases h.two.qlt p hp a n c hc' with q0 | q0
      · exact .inl q0
      refine .inr (fun z hz j hj hb => ?_)
      by_cases e : j = i
      · subst e
        rw [updR_same] at hb
        rcases ha.new _ hb with q2 | q2
        · exact q z hz j hj q2
        · have := q0 z hz; omega
      · rw [updR_other _ _ e] at hb
        exact q z hz j hj hb
/-- A row's cells. -/
theorem Lrw.get {w wr : World} {m : Nat} {V : Nat → Value} {L : Nat → List ByteArray} {x y : Lk} {i j n c : Nat} {a : Option Addr} (h : Lrw w wr m V L x y) (hi : i < m) (hV : V i = .slice a n c) (hj : j < (L i).length) : ∃ g, a = some ⟨g, 0, none⟩ ∧ g < wr.heap.size ∧ wr.cell? ⟨g, j, none⟩ = some (.string (tx (L i) j)) := by
  have ho := h.own i hi
  rcases ho.2 with ⟨_, h0⟩ | ⟨g, cap, cur, hv, _, hg, _⟩
  · omega
  · have hc := ho.cells (g := g) (by rw [hv]; rfl) j (.string (tx (L i) j)) (by simp [txs, tx, List.getD, hj])
    rw [hV] at hv
    simp only [Value.slice.injEq] at hv
    rw [Addr.add_lit] at hc
    exact ⟨g, hv.1, lt_of_block hg, by simpa using hc⟩
theorem Lrw.shape {w wr : World} {m : Nat} {V : Nat → Value} {L : Nat → List ByteArray} {x y : Lk} {i : Nat} (h : Lrw w wr m V L x y) (hi : i < m) : ∃ a c, V i = .slice a (L i).length c := by
  rcases (h.own i hi).2 with ⟨h0, h1⟩ | ⟨g, cap, cur, hv, _⟩
  · exact ⟨none, 0, by rw [h0, h1]⟩
  · exact ⟨_, _, hv⟩
theorem Lrw.two' {w wr : World} {m : Nat} {V : Nat → Value} {L : Nat → List ByteArray} {x y : Lk} (h : Lrw w wr m V L x y) : Two w wr x y := h.two
end Go.Proofs.Ytgbdnclolgdojaa
