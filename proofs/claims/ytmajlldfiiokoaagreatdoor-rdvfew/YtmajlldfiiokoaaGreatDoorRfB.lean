/- The document's ring while a call turns it: rows of its own, a box that holds it; what its words say. -/
import Derived.Test.YtmajlldfiiokoaaGreatDoorRfC2
import Derived.Test.YtmajlldfiiokoaaGreatDoorIdOf2
namespace Go.Proofs.YtmajlldfiiokoaaGreatDoor
open Go.ChangeShapes Go.WideShapes Go.ChangeAt Go.RowKit Go.Deep
set_option linter.unusedVariables false

theorem nearI_R {R : Rg} (h : Inv R) {q frm tgt : Int} (ht : R.lives tgt = true) : nearI (lvL R) (idL R) q frm tgt = R.near q frm tgt := by
  have ht0 := h.rng tgt ht
  unfold nearI Rg.near Rg.lv
  rw [livesB_R h, idI_R (R := R) (n := tgt) ht0.1 ht0.2]
  cases hq : R.lives q
  · simp
  · have hq0 := h.rng q hq
    rw [idI_R (R := R) (n := q) hq0.1 hq0.2]
    have e1 : (tgt != -1) = true := by simp; omega
    have e2 : (q != -1) = true := by simp; omega
    simp [e1, e2]
theorem rectR_R {R : Rg} (h : Inv R) {id pred n : Int} (hn : R.lives n = true) : rectR (lvL R) (idL R) id pred n = R.rect id pred n := by
  have hn0 := h.rng n hn
  unfold rectR Rg.rect Rg.lv
  rw [livesB_R h, idI_R (R := R) (n := n) hn0.1 hn0.2]
  have e1 : (n != -1) = true := by simp; omega
  cases hp : R.lives pred
  · simp
  · have hp0 := h.rng pred hp
    rw [idI_R (R := R) (n := pred) hp0.1 hp0.2]
    have e2 : (pred != -1) = true := by simp; omega
    have e3 : (pred == -1) = false := by simp; omega
    simp [e1, e2, e3]
/-- What the members know lies where the rows show, below B or behind gp. -/
def KnP (X : World) (B gp : Nat) (R : Rg) (P : List Pr3) : Prop := ∀ k : Nat, k < 32 → ∀ x, R.kn k = some x → (P.getD k pr30).id = x.id ∧ (P.getD k pr30).pred = x.pred ∧ PeIn X x.id x.pred (P.getD k pr30).a (P.getD k pr30).len (P.getD k pr30).cap x.succ ∧ ∀ z, (P.getD k pr30).a = some z → z.block < B ∨ gp < z.block
theorem KnP.below {X X' : World} {B gp : Nat} {R : Rg} {P : List Pr3} (h : KnP X B gp R P) (hb : Below X.heap.size X X') : KnP X' B gp R P := fun k hk x hx =>
  ⟨(h k hk x hx).1, (h k hk x hx).2.1, (h k hk x hx).2.2.1.below (Nat.le_refl _) hb, (h k hk x hx).2.2.2⟩
theorem PeIn.setCell {w : World} {id pred : Int} {a : Option Addr} {len cap : Nat} {l : List Int} (h : PeIn w id pred a len cap l) {p o : Nat} (hp : ∀ x, a = some x → x.block ≠ p) (u : Value) : PeIn (w.setCell ⟨p, o, none⟩ u) id pred a len cap l :=
  ⟨h.hid, h.hpred, h.row.setCell hp u, h.hcap, h.hmost, h.hnil⟩
theorem KnP.set {X : World} {B gp : Nat} {R : Rg} {P : List Pr3} (h : KnP X B gp R P) (p o : Nat) (hp : B ≤ p ∧ p ≤ gp) (u : Value) : KnP (X.setCell ⟨p, o, none⟩ u) B gp R P := fun k hk x hx =>
  ⟨(h k hk x hx).1, (h k hk x hx).2.1, (h k hk x hx).2.2.1.setCell (fun z hz => by have := (h k hk x hx).2.2.2 z hz; omega) u, (h k hk x hx).2.2.2⟩
theorem getD_set3 (P : List Pr3) (k j : Nat) (q : Pr3) (hk : k < P.length) : (P.set k q).getD j pr30 = if j = k then q else P.getD j pr30 := by
  rw [List.getD_eq_getElem?_getD, List.getD_eq_getElem?_getD, List.getElem?_set]
  by_cases e : k = j
  · subst e; simp [hk]
  · rw [if_neg e, if_neg (Ne.symm e)]
/-- Behind a look. -/
theorem KnP.stab {X : World} {B gp : Nat} {R : Rg} {P : List Pr3} (h : KnP X B gp R P) (hi : Inv R) (hl : P.length = 32) {k s : Nat} (hk : R.lives k = true) (hs : R.next k = s) (a' : Option Addr) (c' : Nat) (hin : InIn X a' 3 ((s : Int) :: (R.know s).succ.take 2)) (hc1 : 3 ≤ c') (hc2 : c' ≤ 9223372036854775807) (hcl : ∀ z, a' = some z → z.block < B ∨ gp < z.block) (hnil : a' = none → (3 : Nat) = 0) :
    KnP X B gp (R.stab k) ((P.set k ⟨(P.getD k pr30).id, (P.getD k pr30).pred, a', 3, c'⟩).set s ⟨(P.getD s pr30).id, R.rect (R.know s).id (R.know s).pred k, (P.getD s pr30).a, (P.getD s pr30).len, (P.getD s pr30).cap⟩) := by
  have hn := hi.next hk
  rw [hs] at hn
  have hk0 := hi.rng _ hk
  have hs0 := hi.rng _ hn.1
  have hne : s ≠ k := fun e => hn.2.2.1 (by rw [e])
  intro j hj x hx
  rw [getD_set3 _ _ _ _ (by rw [List.length_set]; omega), getD_set3 _ _ _ _ (by omega)]
  have hst : R.stab k = (R.learn k s).tell s k := by unfold Rg.stab; rw [if_pos hk, hs]
  have hkn : (R.stab k).kn j = if (j : Int) = s then some ⟨((R.learn k s).know s).id, (R.learn k s).rect ((R.learn k s).know s).id ((R.learn k s).know s).pred k, ((R.learn k s).know s).succ⟩ else if (j : Int) = k then some ⟨(R.know k).id, (R.know k).pred, (s : Int) :: (R.know s).succ.take 2⟩ else R.kn j := by
    rw [hst]; rfl
  have e1 : (R.learn k s).know s = R.know s := by
    unfold Rg.learn; rw [know_setK, if_neg (by omega)]
  have hlv : (R.learn k s).lives = R.lives := by
    funext y
    unfold Rg.learn; rw [lives_setK]
    split
    · rename_i e; rw [e, hk]
    · rfl
  have e2 : (R.learn k s).rect (R.know s).id (R.know s).pred k = R.rect (R.know s).id (R.know s).pred k := by
    have e3 : ∀ y, (R.learn k s).lv y = R.lv y := fun y => by unfold Rg.lv; rw [hlv]
    have e4 : ∀ y, (R.learn k s).idOf y = R.idOf y := fun y => rfl
    unfold Rg.rect; rw [e3, e4, e4]
  rw [e1, e2] at hkn
  rw [hkn] at hx
  have ks : ∃ y, R.kn s = some y := by
    cases hy : R.kn s with
    | none => have := hn.1; simp [Rg.lives, hy] at this
    | some y => exact ⟨y, rfl⟩
  have kk : ∃ y, R.kn k = some y := by
    cases hy : R.kn k with
    | none => have := hk; simp [Rg.lives, hy] at this
    | some y => exact ⟨y, rfl⟩
  by_cases ej : j = s
  · subst ej
    rw [if_pos rfl] at hx
    rw [if_pos rfl]
    obtain ⟨y, hy⟩ := ks
    have hp := h j hj y hy
    have ek : R.know j = y := by simp [Rg.know, hy]
    rw [ek] at hx ⊢
    cases hx
    refine ⟨hp.1, rfl, ⟨hp.2.2.1.hid, ?_, hp.2.2.1.row, hp.2.2.1.hcap, hp.2.2.1.hmost, hp.2.2.1.hnil⟩, hp.2.2.2⟩
    rcases rect_or R y.id y.pred k with q | q
    · show i64 (R.rect y.id y.pred k); rw [q]; unfold i64; omega
    · show i64 (R.rect y.id y.pred k); rw [q]; exact hp.2.2.1.hpred
  · rw [if_neg (by omega)] at hx
    rw [if_neg ej]
    by_cases ek : j = k
    · subst ek
      rw [if_pos rfl] at hx
      rw [if_pos rfl]
      obtain ⟨y, hy⟩ := kk
      have hp := h j hj y hy
      have e5 : R.know j = y := by simp [Rg.know, hy]
      rw [e5] at hx
      cases hx
      exact ⟨hp.1, hp.2.1, ⟨hp.2.2.1.hid, hp.2.2.1.hpred, hin, hc1, hc2, hnil⟩, hcl⟩
    · rw [if_neg (by omega)] at hx
      rw [if_neg ek]
      exact h j hj x hx
theorem stab_rows {R : Rg} (hi : Inv R) {n : Int} (hn : R.lives n = true) : usL (R.stab n) = usL R ∧ lvL (R.stab n) = lvL R ∧ idL (R.stab n) = idL R := by
  have k := hi.look hn
  refine ⟨?_, ?_, ?_⟩
  · unfold usL; rw [k.pl]
  · unfold lvL; rw [k.livesF]
  · unfold idL; rw [k.idF]
theorem pl3_set (P : List Pr3) (n j : Nat) (hn : n < P.length) (hj : j < 3) (u : Value) (q : Pr3) (hq : q.cells = (P.getD n pr30).cells.set j u) : (pl3 P).set (n * 3 + j) u = pl3 (P.set n q) := by
  induction P generalizing n with
  | nil => simp at hn
  | cons x P ih =>
    cases n with
    | zero =>
      have e : pl3 (x :: P) = x.cells ++ pl3 P := rfl
      rw [e, Nat.zero_mul, Nat.zero_add, List.set_append_left _ _ (by show j < x.cells.length; exact hj)]
      have e2 : pl3 ((x :: P).set 0 q) = q.cells ++ pl3 P := rfl
      rw [e2, hq]; rfl
    | succ m =>
      have e : pl3 (x :: P) = x.cells ++ pl3 P := rfl
      have e2 : pl3 ((x :: P).set (m + 1) q) = x.cells ++ pl3 (P.set m q) := rfl
      have hl : x.cells.length = 3 := rfl
      rw [e, e2, List.set_append_right _ _ (by rw [hl]; omega), hl]
      have ei : (m + 1) * 3 + j - 3 = m * 3 + j := by omega
      rw [ei, ih m (by simpa using hn) (by simpa using hq)]
theorem RfO.low {B B' : Nat} {w : World} {gu cu gl cl gi ci gp cp : Nat} {U L : List Bool} {I : List Int} {P : List Pr3} (h : RfO B w gu cu gl cl gi ci gp cp U L I P) (hB : B' ≤ B) : RfO B' w gu cu gl cl gi ci gp cp U L I P :=
  ⟨row_low h.u hB, row_low h.l hB, row_low h.i hB, row_low h.p hB, h.ne, h.ok⟩
theorem RfO.below {B : Nat} {w w' : World} {gu cu gl cl gi ci gp cp : Nat} {U L : List Bool} {I : List Int} {P : List Pr3} (h : RfO B w gu cu gl cl gi ci gp cp U L I P) (hb : Below w.heap.size w w') : RfO B w' gu cu gl cl gi ci gp cp U L I P :=
  ⟨row_below h.u hb, row_below h.l hb, row_below h.i hb, row_below h.p hb, h.ne, h.ok⟩
theorem RfO.len {B : Nat} {w : World} {gu cu gl cl gi ci gp cp : Nat} {U L : List Bool} {I : List Int} {P : List Pr3} (h : RfO B w gu cu gl cl gi ci gp cp U L I P) : U.length = 32 ∧ L.length = 32 ∧ I.length = 32 ∧ P.length = 32 := by
  have h1 := h.u.1; have h2 := h.l.1; have h3 := h.i.1; have h4 := h.p.1
  have e4 : (pl3 P).length = P.length * 3 := flat_len Pr3.cells 3 Pr3.len3 P
  simp only [bl, ul, List.length_map] at h1 h2 h3
  exact ⟨by omega, by omega, by omega, by omega⟩
theorem RfO.lt {B : Nat} {w : World} {gu cu gl cl gi ci gp cp : Nat} {U L : List Bool} {I : List Int} {P : List Pr3} (h : RfO B w gu cu gl cl gi ci gp cp U L I P) : gu < w.heap.size ∧ gl < w.heap.size ∧ gi < w.heap.size ∧ gp < w.heap.size :=
  ⟨(h.u.lt gu rfl).2, (h.l.lt gl rfl).2, (h.i.lt gi rfl).2, (h.p.lt gp rfl).2⟩
theorem own_inB {w : World} {B g c : Nat} {L : List Bool} (h : w.ownsRow B 4 1 (.slice (some ⟨g, 0, none⟩) 32 c) 32 (bl L)) : LvIn w (some ⟨g, 0, none⟩) 32 L := by
  have hl : L.length = 32 := by have := h.1; simp [bl] at this; omega
  refine ⟨hl, by omega, .inr ⟨g, 0, rfl, (h.lt g rfl).2, fun i hi => ⟨trivial, fun j hj => ?_⟩⟩⟩
  obtain rfl : j = 0 := by omega
  have e := h.cells (g := g) rfl i (.bool (L.getD i false)) (by simp [bl, List.getD, hl, hi])
  rw [Addr.add_lit] at e
  simpa [encB] using e
theorem own_inU {w : World} {B g c : Nat} {L : List Int} (h : w.ownsRow B 58 1 (.slice (some ⟨g, 0, none⟩) 32 c) 32 (ul L)) (hu : ∀ x ∈ L, u64 x) : IdIn w (some ⟨g, 0, none⟩) 32 L := by
  have hl : L.length = 32 := by have := h.1; simp [ul] at this; omega
  refine ⟨hl, by omega, .inr ⟨g, 0, rfl, (h.lt g rfl).2, fun i hi => ⟨hu _ ?_, fun j hj => ?_⟩⟩⟩
  · rw [List.getD_eq_getElem?_getD, List.getElem?_eq_getElem (by omega)]; simp
  obtain rfl : j = 0 := by omega
  have e := h.cells (g := g) rfl i (.int .u64 (L.getD i 0)) (by simp [ul, List.getD, hl, hi])
  rw [Addr.add_lit] at e
  simpa [encU] using e
theorem own_inP {w : World} {B g c : Nat} {L : List Pr3} (h : w.ownsRow B 140 3 (.slice (some ⟨g, 0, none⟩) 32 c) 32 (pl3 L)) (hu : ∀ x ∈ L, x.ok) : InRow 3 Pr3.cells Pr3.ok pr30 w (some ⟨g, 0, none⟩) 32 L := by
  have hl : L.length = 32 := by
    have h1 := h.1
    have e4 : (pl3 L).length = L.length * 3 := flat_len Pr3.cells 3 Pr3.len3 L
    omega
  refine ⟨hl, by omega, .inr ⟨g, 0, rfl, (h.lt g rfl).2, fun i hi => ⟨hu _ ?_, fun j hj => ?_⟩⟩⟩
  · rw [List.getD_eq_getElem?_getD, List.getElem?_eq_getElem (by omega)]; simp
  have hx := flat_get Pr3.cells 3 Pr3.len3 pr30 L i j (by omega) hj
  have hj' : j < (L.getD i pr30).cells.length := hj
  have e := h.cells (g := g) rfl (i * 3 + j) ((L.getD i pr30).cells[j]) (by show (pl3 L)[i * 3 + j]? = _; rw [show (pl3 L) = L.flatMap Pr3.cells from rfl, hx, List.getElem?_eq_getElem hj'])
  rw [Addr.add_lit] at e
  rw [Nat.zero_add]
  rw [Nat.zero_add] at e
  rw [e, List.getElem?_eq_getElem hj']
theorem RfO.rfw {B : Nat} {w : World} {gu cu gl cl gi ci gp cp : Nat} {U L : List Bool} {I : List Int} {P : List Pr3} (h : RfO B w gu cu gl cl gi ci gp cp U L I P) : RfW w L I (.agg #[.slice (some ⟨gl, 0, none⟩) 32 cl, .slice (some ⟨gi, 0, none⟩) 32 ci]) :=
  ⟨_, 32, _, _, 32, _, rfl, own_inB h.l, own_inU h.i h.ok.1⟩
/-- A member's three cells. -/
theorem RfO.peer {B : Nat} {w : World} {gu cu gl cl gi ci gp cp : Nat} {U L : List Bool} {I : List Int} {P : List Pr3} (h : RfO B w gu cu gl cl gi ci gp cp U L I P) {k : Nat} (hk : k < 32) :
    w.cell? ⟨gp, k * 3, none⟩ = some (.int .u64 (P.getD k pr30).id) ∧ w.cell? ⟨gp, k * 3 + 1, none⟩ = some (.int .i64 (P.getD k pr30).pred) ∧ w.cell? ⟨gp, k * 3 + 2, none⟩ = some (.slice (P.getD k pr30).a (P.getD k pr30).len (P.getD k pr30).cap) := by
  obtain ⟨b, o, ha, _, hc⟩ := (own_inP h.p h.ok.2).2.2.resolve_left (by omega)
  simp only [Option.some.injEq, Addr.mk.injEq, and_true] at ha
  obtain ⟨rfl, rfl⟩ := ha
  have h0 := (hc k hk).2 0 (by omega)
  have h1 := (hc k hk).2 1 (by omega)
  have h2 := (hc k hk).2 2 (by omega)
  simp only [Nat.zero_add, Nat.add_zero] at h0 h1 h2
  exact ⟨h0, h1, h2⟩
theorem RfO.fz {B : Nat} {w : World} {gu cu gl cl gi ci gp cp : Nat} {U L : List Bool} {I : List Int} {P : List Pr3} (h : RfO B w gu cu gl cl gi ci gp cp U L I P) (j : Nat) : w.frozen? ⟨gu, j, none⟩ = false ∧ w.frozen? ⟨gl, j, none⟩ = false ∧ w.frozen? ⟨gi, j, none⟩ = false ∧ w.frozen? ⟨gp, j, none⟩ = false :=
  ⟨h.u.frozenAt j, h.l.frozenAt j, h.i.frozenAt j, h.p.frozenAt j⟩
/-- One cell of a member is stored. -/
theorem RfO.setP {B : Nat} {w : World} {gu cu gl cl gi ci gp cp : Nat} {U L : List Bool} {I : List Int} {P : List Pr3} (h : RfO B w gu cu gl cl gi ci gp cp U L I P) {k j : Nat} (hk : k < 32) (hj : j < 3) (u : Value) (q : Pr3) (hq : q.cells = (P.getD k pr30).cells.set j u) (hok : q.ok) :
    RfO B (w.setCell ⟨gp, k * 3 + j, none⟩ u) gu cu gl cl gi ci gp cp U L I (P.set k q) := by
  have hn := h.ne
  have hl := h.len
  have hs := (h.p.stored (k * 3 + j) u).1
  rw [pl3_set P k j (by omega) hj u q hq] at hs
  have ho : ∀ g, g ≠ gp → (w.setCell ⟨gp, k * 3 + j, none⟩ u).heap[g]? = w.heap[g]? := fun g hg => Below.heap_setCell _ _ _ _ (by simpa using hg)
  refine ⟨row_kept h.u (fun g hg => ?_), row_kept h.l (fun g hg => ?_), row_kept h.i (fun g hg => ?_), hs, h.ne, h.ok.1, fun x hx => ?_⟩
  · simp [Value.ownBlock] at hg; exact ho g (by omega)
  · simp [Value.ownBlock] at hg; exact ho g (by omega)
  · simp [Value.ownBlock] at hg; exact ho g (by omega)
  · rcases List.mem_or_eq_of_mem_set hx with r | r
    · exact h.ok.2 x r
    · rw [r]; exact hok
/-- A ring in a box, with another one behind it for the answer. -/
structure RfB (w X : World) (gu cu gl cl gi ci gp cp : Nat) (U L : List Bool) (I : List Int) (P : List Pr3) : Prop where
  box : X.heap[w.heap.size]? = some (.cells #[.slice (some ⟨gu, 0, none⟩) 32 cu, .slice (some ⟨gl, 0, none⟩) 32 cl, .slice (some ⟨gi, 0, none⟩) 32 ci, .slice (some ⟨gp, 0, none⟩) 32 cp] 32 (0, 0))
  res : X.heap[w.heap.size + 1]? = some (.cells #[.slice none 0 0, .slice none 0 0, .slice none 0 0, .slice none 0 0] 32 (0, 0))
  o : RfO w.heap.size X gu cu gl cl gi ci gp cp U L I P
  bel : Below w.heap.size w X
  lo : w.heap.size + 1 < gu
theorem RfB.below {w X X' : World} {gu cu gl cl gi ci gp cp : Nat} {U L : List Bool} {I : List Int} {P : List Pr3} (h : RfB w X gu cu gl cl gi ci gp cp U L I P) (hb : Below X.heap.size X X') : RfB w X' gu cu gl cl gi ci gp cp U L I P :=
  ⟨(hb.block _ (lt_of_block h.box)).trans h.box, (hb.block _ (lt_of_block h.res)).trans h.res, h.o.below hb, h.bel.trans (hb.mono h.bel.size), h.lo⟩
theorem RfB.setP {w X : World} {gu cu gl cl gi ci gp cp : Nat} {U L : List Bool} {I : List Int} {P : List Pr3} (h : RfB w X gu cu gl cl gi ci gp cp U L I P) {k j : Nat} (hk : k < 32) (hj : j < 3) (u : Value) (q : Pr3) (hq : q.cells = (P.getD k pr30).cells.set j u) (hok : q.ok) :
    RfB w (X.setCell ⟨gp, k * 3 + j, none⟩ u) gu cu gl cl gi ci gp cp U L I (P.set k q) := by
  have hn := h.o.ne
  have hl := h.lo
  exact ⟨(Below.heap_setCell _ _ _ _ (by show w.heap.size ≠ gp; omega)).trans h.box, (Below.heap_setCell _ _ _ _ (by show w.heap.size + 1 ≠ gp; omega)).trans h.res, h.o.setP hk hj u q hq hok, h.bel.setCell (by show w.heap.size ≤ gp; omega) _, h.lo⟩
/-- The rows as a ring of the document's. -/
theorem RfO.toV {B : Nat} {w : World} {gu cu gl cl gi ci gp cp : Nat} {R : Rg} {P : List Pr3} (h : RfO B w gu cu gl cl gi ci gp cp (usL R) (lvL R) (idL R) P) {B' : Nat} (hk : KnP w B' gp R P) : RfV w R (rfv gu cu gl cl gi ci gp cp) :=
  ⟨_, _, _, _, _, _, _, _, P, rfl, own_inB h.u, own_inB h.l, own_inU h.i h.ok.1, own_inP h.p h.ok.2, fun k hk' x hx => ⟨(hk k hk' x hx).1, (hk k hk' x hx).2.1, (hk k hk' x hx).2.2.1⟩⟩
end Go.Proofs.YtmajlldfiiokoaaGreatDoor
