/- wigwagref10.Copy. -/
import Derived.Test.YtmajlldfiiokoaaGreatDoorJoinOwnSrc3
import Derived.Test.YtmajlldfiiokoaaGreatDoorIdOf2
import Derived.Deep.CutBlock
import Derived.Deep.DeepCutAuto
import Derived.Deep.LoopGhost
import Derived.Test.YtmajlldfiiokoaaGreatDoorJoinRfN0
import Derived.Test.YtmajlldfiiokoaaGreatDoorChAll
import Derived.Test.YtmajlldfiiokoaaGreatDoorChAct
import Derived.Test.YtmajlldfiiokoaaGreatDoorOfCode
import Derived.Test.YtmajlldfiiokoaaGreatDoorRiseMath
set_option linter.unnecessarySimpa false
namespace Go.Proofs.YtmajlldfiiokoaaGreatDoor
open Go.ChangeShapes Go.WideShapes Go.ChangeAt Go.RowKit Go.Deep
set_option linter.unusedVariables false

theorem Pr3.len3 (p : Pr3) : p.cells.length = 3 := rfl
theorem fz_block {w : World} {b : Nat} {cs : Array Value} {t : TypeId} (h : w.heap[b]? = some (.cells cs t (0, 0))) (k : Nat) : w.frozen? ⟨b, k, none⟩ = false := by simp [World.frozen?, h]
theorem c4_block {w : World} {b : Nat} {a0 a1 a2 a3 : Value} {t : TypeId} (h : w.heap[b]? = some (.cells #[a0, a1, a2, a3] t (0, 0))) : w.cell? ⟨b, 0, none⟩ = some a0 ∧ w.cell? ⟨b, 1, none⟩ = some a1 ∧ w.cell? ⟨b, 2, none⟩ = some a2 ∧ w.cell? ⟨b, 3, none⟩ = some a3 ∧ b < w.heap.size :=
  ⟨by simp [World.cell?, h], by simp [World.cell?, h], by simp [World.cell?, h], by simp [World.cell?, h], lt_of_block h⟩
end Go.Proofs.YtmajlldfiiokoaaGreatDoor

/- The document's ring while a call turns it: rows of its own, a box that holds it; what its words say. -/
namespace Go.Proofs.YtmajlldfiiokoaaGreatDoor
open Go.ChangeShapes Go.WideShapes Go.ChangeAt Go.RowKit Go.Deep
set_option linter.unusedVariables false

/-- What the members know lies where the rows show, below B or behind gp. -/
def KnP (X : World) (B gp : Nat) (R : Rg) (P : List Pr3) : Prop := ∀ k : Nat, k < 32 → ∀ x, R.kn k = some x → (P.getD k pr30).id = x.id ∧ (P.getD k pr30).pred = x.pred ∧ PeIn X x.id x.pred (P.getD k pr30).a (P.getD k pr30).len (P.getD k pr30).cap x.succ ∧ ∀ z, (P.getD k pr30).a = some z → z.block < B ∨ gp < z.block
theorem KnP.below {X X' : World} {B gp : Nat} {R : Rg} {P : List Pr3} (h : KnP X B gp R P) (hb : Below X.heap.size X X') : KnP X' B gp R P := fun k hk x hx =>
  ⟨(h k hk x hx).1, (h k hk x hx).2.1, (h k hk x hx).2.2.1.below (Nat.le_refl _) hb, (h k hk x hx).2.2.2⟩
theorem PeIn.setCell {w : World} {id pred : Int} {a : Option Addr} {len cap : Nat} {l : List Int} (h : PeIn w id pred a len cap l) {p o : Nat} (hp : ∀ x, a = some x → x.block ≠ p) (u : Value) : PeIn (w.setCell ⟨p, o, none⟩ u) id pred a len cap l :=
  ⟨h.hid, h.hpred, h.row.setCell hp u, h.hcap, h.hmost, h.hnil⟩
theorem KnP.set {X : World} {B gp : Nat} {R : Rg} {P : List Pr3} (h : KnP X B gp R P) (p o : Nat) (hp : B ≤ p ∧ p ≤ gp) (u : Value) : KnP (X.setCell ⟨p, o, none⟩ u) B gp R P := fun k hk x hx =>
  ⟨(h k hk x hx).1, (h k hk x hx).2.1, (h k hk x hx).2.2.1.setCell (fun z hz => by have := (h k hk x hx).2.2.2 z hz; omega) u, (h k hk x hx).2.2.2⟩
theorem getD_set3 (P : List Pr3) (k j : Nat) (q : Pr3) (hk : k < P.length) : (P.set k q).getD j pr30 = if j = k then q else P.getD j pr30 := by
  rw [List.getD_eq_getElem?_getD, List.getD_eq_getElem?_getD, List.getElem?_set]
  by_cases e : k = j
  · subst e; simp [hk]
  · rw [if_neg e, if_neg (Ne.symm e)]
/-- Behind a look. -/
theorem KnP.stab {X : World} {B gp : Nat} {R : Rg} {P : List Pr3} (h : KnP X B gp R P) (hi : Inv R) (hl : P.length = 32) {k s : Nat} (hk : R.lives k = true) (hs : R.next k = s) (a' : Option Addr) (c' : Nat) (hin : InIn X a' 3 ((s : Int) :: (R.know s).succ.take 2)) (hc1 : 3 ≤ c') (hc2 : c' ≤ 9223372036854775807) (hcl : ∀ z, a' = some z → z.block < B ∨ gp < z.block) (hnil : a' = none → (3 : Nat) = 0) :
    KnP X B gp (R.stab k) ((P.set k ⟨(P.getD k pr30).id, (P.getD k pr30).pred, a', 3, c'⟩).set s ⟨(P.getD s pr30).id, R.rect (R.know s).id (R.know s).pred k, (P.getD s pr30).a, (P.getD s pr30).len, (P.getD s pr30).cap⟩) := by
  have hn := hi.next hk
  rw [hs] at hn
  have hk0 := hi.rng _ hk
  have hs0 := hi.rng _ hn.1
  have hne : s ≠ k := fun e => hn.2.2.1 (by rw [e])
  intro j hj x hx
  rw [getD_set3 _ _ _ _ (by rw [List.length_set]; omega), getD_set3 _ _ _ _ (by omega)]
  have hst : R.stab k = (R.learn k s).tell s k := by unfold Rg.stab; rw [if_pos hk, hs]
  have hkn : (R.stab k).kn j = if (j : Int) = s then some ⟨((R.learn k s).know s).id, (R.learn k s).rect ((R.learn k s).know s).id ((R.learn k s).know s).pred k, ((R.learn k s).know s).succ⟩ else if (j : Int) = k then some ⟨(R.know k).id, (R.know k).pred, (s : Int) :: (R.know s).succ.take 2⟩ else R.kn j := by
    rw [hst]; rfl
  have e1 : (R.learn k s).know s = R.know s := by
    unfold Rg.learn; rw [know_setK, if_neg (by omega)]
  have hlv : (R.learn k s).lives = R.lives := by
    funext y
    unfold Rg.learn; rw [lives_setK]
    split
    · rename_i e; rw [e, hk]
    · rfl
  have e2 : (R.learn k s).rect (R.know s).id (R.know s).pred k = R.rect (R.know s).id (R.know s).pred k := by
    have e3 : ∀ y, (R.learn k s).lv y = R.lv y := fun y => by unfold Rg.lv; rw [hlv]
    have e4 : ∀ y, (R.learn k s).idOf y = R.idOf y := fun y => rfl
    unfold Rg.rect; rw [e3, e4, e4]
  rw [e1, e2] at hkn
  rw [hkn] at hx
  have ks : ∃ y, R.kn s = some y := by
    cases hy : R.kn s with
    | none => have := hn.1; simp [Rg.lives, hy] at this
    | some y => exact ⟨y, rfl⟩
  have kk : ∃ y, R.kn k = some y := by
    cases hy : R.kn k with
    | none => have := hk; simp [Rg.lives, hy] at this
    | some y => exact ⟨y, rfl⟩
  by_cases ej : j = s
  · subst ej
    rw [if_pos rfl] at hx
    rw [if_pos rfl]
    obtain ⟨y, hy⟩ := ks
    have hp := h j hj y hy
    have ek : R.know j = y := by simp [Rg.know, hy]
    rw [ek] at hx ⊢
    cases hx
    refine ⟨hp.1, rfl, ⟨hp.2.2.1.hid, ?_, hp.2.2.1.row, hp.2.2.1.hcap, hp.2.2.1.hmost, hp.2.2.1.hnil⟩, hp.2.2.2⟩
    rcases rect_or R y.id y.pred k with q | q
    · show i64 (R.rect y.id y.pred k); rw [q]; unfold i64; omega
    · show i64 (R.rect y.id y.pred k); rw [q]; exact hp.2.2.1.hpred
  · rw [if_neg (by omega)] at hx
    rw [if_neg ej]
    by_cases ek : j = k
    · subst ek
      rw [if_pos rfl] at hx
      rw [if_pos rfl]
      obtain ⟨y, hy⟩ := kk
      have hp := h j hj y hy
      have e5 : R.know j = y := by simp [Rg.know, hy]
      rw [e5] at hx
      cases hx
      exact ⟨hp.1, hp.2.1, ⟨hp.2.2.1.hid, hp.2.2.1.hpred, hin, hc1, hc2, hnil⟩, hcl⟩
    · rw [if_neg (by omega)] at hx
      rw [if_neg ek]
      exact h j hj x hx
theorem pl3_set (P : List Pr3) (n j : Nat) (hn : n < P.length) (hj : j < 3) (u : Value) (q : Pr3) (hq : q.cells = (P.getD n pr30).cells.set j u) : (pl3 P).set (n * 3 + j) u = pl3 (P.set n q) := by
  induction P generalizing n with
  | nil => simp at hn
  | cons x P ih =>
    cases n with
    | zero =>
      have e : pl3 (x :: P) = x.cells ++ pl3 P := rfl
      rw [e, Nat.zero_mul, Nat.zero_add, List.set_append_left _ _ (by show j < x.cells.length; exact hj)]
      have e2 : pl3 ((x :: P).set 0 q) = q.cells ++ pl3 P := rfl
      rw [e2, hq]; rfl
    | succ m =>
      have e : pl3 (x :: P) = x.cells ++ pl3 P := rfl
      have e2 : pl3 ((x :: P).set (m + 1) q) = x.cells ++ pl3 (P.set m q) := rfl
      have hl : x.cells.length = 3 := rfl
      rw [e, e2, List.set_append_right _ _ (by rw [hl]; omega), hl]
      have ei : (m + 1) * 3 + j - 3 = m * 3 + j := by omega
      rw [ei, ih m (by simpa using hn) (by simpa using hq)]
theorem RfO.low {B B' : Nat} {w : World} {gu cu gl cl gi ci gp cp : Nat} {U L : List Bool} {I : List Int} {P : List Pr3} (h : RfO B w gu cu gl cl gi ci gp cp U L I P) (hB : B' ≤ B) : RfO B' w gu cu gl cl gi ci gp cp U L I P :=
  ⟨row_low h.u hB, row_low h.l hB, row_low h.i hB, row_low h.p hB, h.ne, h.ok⟩
theorem RfO.below {B : Nat} {w w' : World} {gu cu gl cl gi ci gp cp : Nat} {U L : List Bool} {I : List Int} {P : List Pr3} (h : RfO B w gu cu gl cl gi ci gp cp U L I P) (hb : Below w.heap.size w w') : RfO B w' gu cu gl cl gi ci gp cp U L I P :=
  ⟨row_below h.u hb, row_below h.l hb, row_below h.i hb, row_below h.p hb, h.ne, h.ok⟩
theorem RfO.len {B : Nat} {w : World} {gu cu gl cl gi ci gp cp : Nat} {U L : List Bool} {I : List Int} {P : List Pr3} (h : RfO B w gu cu gl cl gi ci gp cp U L I P) : U.length = 32 ∧ L.length = 32 ∧ I.length = 32 ∧ P.length = 32 := by
  have h1 := h.u.1; have h2 := h.l.1; have h3 := h.i.1; have h4 := h.p.1
  have e4 : (pl3 P).length = P.length * 3 := flat_len Pr3.cells 3 Pr3.len3 P
  simp only [bl, ul, List.length_map] at h1 h2 h3
  exact ⟨by omega, by omega, by omega, by omega⟩
theorem RfO.lt {B : Nat} {w : World} {gu cu gl cl gi ci gp cp : Nat} {U L : List Bool} {I : List Int} {P : List Pr3} (h : RfO B w gu cu gl cl gi ci gp cp U L I P) : gu < w.heap.size ∧ gl < w.heap.size ∧ gi < w.heap.size ∧ gp < w.heap.size :=
  ⟨(h.u.lt gu rfl).2, (h.l.lt gl rfl).2, (h.i.lt gi rfl).2, (h.p.lt gp rfl).2⟩
theorem own_inB {w : World} {B g c : Nat} {L : List Bool} (h : w.ownsRow B 4 1 (.slice (some ⟨g, 0, none⟩) 32 c) 32 (bl L)) : LvIn w (some ⟨g, 0, none⟩) 32 L := by
  have hl : L.length = 32 := by have := h.1; simp [bl] at this; omega
  refine ⟨hl, by omega, .inr ⟨g, 0, rfl, (h.lt g rfl).2, fun i hi => ⟨trivial, fun j hj => ?_⟩⟩⟩
  obtain rfl : j = 0 := by omega
  have e := h.cells (g := g) rfl i (.bool (L.getD i false)) (by simp [bl, List.getD, hl, hi])
  rw [Addr.add_lit] at e
  simpa [encB] using e
theorem own_inU {w : World} {B g c : Nat} {L : List Int} (h : w.ownsRow B 58 1 (.slice (some ⟨g, 0, none⟩) 32 c) 32 (ul L)) (hu : ∀ x ∈ L, u64 x) : IdIn w (some ⟨g, 0, none⟩) 32 L := by
  have hl : L.length = 32 := by have := h.1; simp [ul] at this; omega
  refine ⟨hl, by omega, .inr ⟨g, 0, rfl, (h.lt g rfl).2, fun i hi => ⟨hu _ ?_, fun j hj => ?_⟩⟩⟩
  · rw [List.getD_eq_getElem?_getD, List.getElem?_eq_getElem (by omega)]; simp
  obtain rfl : j = 0 := by omega
  have e := h.cells (g := g) rfl i (.int .u64 (L.getD i 0)) (by simp [ul, List.getD, hl, hi])
  rw [Addr.add_lit] at e
  simpa [encU] using e
theorem own_inP {w : World} {B g c : Nat} {L : List Pr3} (h : w.ownsRow B 140 3 (.slice (some ⟨g, 0, none⟩) 32 c) 32 (pl3 L)) (hu : ∀ x ∈ L, x.ok) : InRow 3 Pr3.cells Pr3.ok pr30 w (some ⟨g, 0, none⟩) 32 L := by
  have hl : L.length = 32 := by
    have h1 := h.1
    have e4 : (pl3 L).length = L.length * 3 := flat_len Pr3.cells 3 Pr3.len3 L
    omega
  refine ⟨hl, by omega, .inr ⟨g, 0, rfl, (h.lt g rfl).2, fun i hi => ⟨hu _ ?_, fun j hj => ?_⟩⟩⟩
  · rw [List.getD_eq_getElem?_getD, List.getElem?_eq_getElem (by omega)]; simp
  have hx := flat_get Pr3.cells 3 Pr3.len3 pr30 L i j (by omega) hj
  have hj' : j < (L.getD i pr30).cells.length := hj
  have e := h.cells (g := g) rfl (i * 3 + j) ((L.getD i pr30).cells[j]) (by show (pl3 L)[i * 3 + j]? = _; rw [show (pl3 L) = L.flatMap Pr3.cells from rfl, hx, List.getElem?_eq_getElem hj'])
  rw [Addr.add_lit] at e
  rw [Nat.zero_add]
  rw [Nat.zero_add] at e
  rw [e, List.getElem?_eq_getElem hj']
/-- A member's three cells. -/
theorem RfO.peer {B : Nat} {w : World} {gu cu gl cl gi ci gp cp : Nat} {U L : List Bool} {I : List Int} {P : List Pr3} (h : RfO B w gu cu gl cl gi ci gp cp U L I P) {k : Nat} (hk : k < 32) :
    w.cell? ⟨gp, k * 3, none⟩ = some (.int .u64 (P.getD k pr30).id) ∧ w.cell? ⟨gp, k * 3 + 1, none⟩ = some (.int .i64 (P.getD k pr30).pred) ∧ w.cell? ⟨gp, k * 3 + 2, none⟩ = some (.slice (P.getD k pr30).a (P.getD k pr30).len (P.getD k pr30).cap) := by
  obtain ⟨b, o, ha, _, hc⟩ := (own_inP h.p h.ok.2).2.2.resolve_left (by omega)
  simp only [Option.some.injEq, Addr.mk.injEq, and_true] at ha
  obtain ⟨rfl, rfl⟩ := ha
  have h0 := (hc k hk).2 0 (by omega)
  have h1 := (hc k hk).2 1 (by omega)
  have h2 := (hc k hk).2 2 (by omega)
  simp only [Nat.zero_add, Nat.add_zero] at h0 h1 h2
  exact ⟨h0, h1, h2⟩
/-- One cell of a member is stored. -/
theorem RfO.setP {B : Nat} {w : World} {gu cu gl cl gi ci gp cp : Nat} {U L : List Bool} {I : List Int} {P : List Pr3} (h : RfO B w gu cu gl cl gi ci gp cp U L I P) {k j : Nat} (hk : k < 32) (hj : j < 3) (u : Value) (q : Pr3) (hq : q.cells = (P.getD k pr30).cells.set j u) (hok : q.ok) :
    RfO B (w.setCell ⟨gp, k * 3 + j, none⟩ u) gu cu gl cl gi ci gp cp U L I (P.set k q) := by
  have hn := h.ne
  have hl := h.len
  have hs := (h.p.stored (k * 3 + j) u).1
  rw [pl3_set P k j (by omega) hj u q hq] at hs
  have ho : ∀ g, g ≠ gp → (w.setCell ⟨gp, k * 3 + j, none⟩ u).heap[g]? = w.heap[g]? := fun g hg => Below.heap_setCell _ _ _ _ (by simpa using hg)
  refine ⟨row_kept h.u (fun g hg => ?_), row_kept h.l (fun g hg => ?_), row_kept h.i (fun g hg => ?_), hs, h.ne, h.ok.1, fun x hx => ?_⟩
  · simp [Value.ownBlock] at hg; exact ho g (by omega)
  · simp [Value.ownBlock] at hg; exact ho g (by omega)
  · simp [Value.ownBlock] at hg; exact ho g (by omega)
  · rcases List.mem_or_eq_of_mem_set hx with r | r
    · exact h.ok.2 x r
    · rw [r]; exact hok
/-- A ring in a box, with another one behind it for the answer. -/
structure RfB (w X : World) (gu cu gl cl gi ci gp cp : Nat) (U L : List Bool) (I : List Int) (P : List Pr3) : Prop where
  box : X.heap[w.heap.size]? = some (.cells #[.slice (some ⟨gu, 0, none⟩) 32 cu, .slice (some ⟨gl, 0, none⟩) 32 cl, .slice (some ⟨gi, 0, none⟩) 32 ci, .slice (some ⟨gp, 0, none⟩) 32 cp] 32 (0, 0))
  res : X.heap[w.heap.size + 1]? = some (.cells #[.slice none 0 0, .slice none 0 0, .slice none 0 0, .slice none 0 0] 32 (0, 0))
  o : RfO w.heap.size X gu cu gl cl gi ci gp cp U L I P
  bel : Below w.heap.size w X
  lo : w.heap.size + 1 < gu
theorem RfB.below {w X X' : World} {gu cu gl cl gi ci gp cp : Nat} {U L : List Bool} {I : List Int} {P : List Pr3} (h : RfB w X gu cu gl cl gi ci gp cp U L I P) (hb : Below X.heap.size X X') : RfB w X' gu cu gl cl gi ci gp cp U L I P :=
  ⟨(hb.block _ (lt_of_block h.box)).trans h.box, (hb.block _ (lt_of_block h.res)).trans h.res, h.o.below hb, h.bel.trans (hb.mono h.bel.size), h.lo⟩
theorem RfB.setP {w X : World} {gu cu gl cl gi ci gp cp : Nat} {U L : List Bool} {I : List Int} {P : List Pr3} (h : RfB w X gu cu gl cl gi ci gp cp U L I P) {k j : Nat} (hk : k < 32) (hj : j < 3) (u : Value) (q : Pr3) (hq : q.cells = (P.getD k pr30).cells.set j u) (hok : q.ok) :
    RfB w (X.setCell ⟨gp, k * 3 + j, none⟩ u) gu cu gl cl gi ci gp cp U L I (P.set k q) := by
  have hn := h.o.ne
  have hl := h.lo
  exact ⟨(Below.heap_setCell _ _ _ _ (by show w.heap.size ≠ gp; omega)).trans h.box, (Below.heap_setCell _ _ _ _ (by show w.heap.size + 1 ≠ gp; omega)).trans h.res, h.o.setP hk hj u q hq hok, h.bel.setCell (by show w.heap.size ≤ gp; omega) _, h.lo⟩
/-- The rows as a ring of the document's. -/
theorem RfO.toV {B : Nat} {w : World} {gu cu gl cl gi ci gp cp : Nat} {R : Rg} {P : List Pr3} (h : RfO B w gu cu gl cl gi ci gp cp (usL R) (lvL R) (idL R) P) {B' : Nat} (hk : KnP w B' gp R P) : RfV w R (rfv gu cu gl cl gi ci gp cp) :=
  ⟨_, _, _, _, _, _, _, _, P, rfl, own_inB h.u, own_inB h.l, own_inU h.i h.ok.1, own_inP h.p h.ok.2, fun k hk' x hx => ⟨(hk k hk' x hx).1, (hk k hk' x hx).2.1, (hk k hk' x hx).2.2.1⟩⟩
end Go.Proofs.YtmajlldfiiokoaaGreatDoor

/- wigwagref10.Stabilize. -/
namespace Go.Proofs.YtmajlldfiiokoaaGreatDoor
open Go.ChangeShapes Go.WideShapes Go.ChangeAt Go.RowKit Go.Deep
set_option linter.unusedVariables false

/-- Both boxes at the start. -/
structure RfI (w W : World) (ua uc la lc ia ic pa pc : Value) : Prop where
  box : W.heap[w.heap.size]? = some (.cells #[ua, la, ia, pa] 32 (0, 0))
  res : W.heap[w.heap.size + 1]? = some (.cells #[.slice none 0 0, .slice none 0 0, .slice none 0 0, .slice none 0 0] 32 (0, 0))
  bel : Below w.heap.size w W
theorem RfI.below {w W W' : World} {ua uc la lc ia ic pa pc : Value} (h : RfI w W ua uc la lc ia ic pa pc) (hb : Below W.heap.size W W') : RfI w W' ua uc la lc ia ic pa pc :=
  ⟨(hb.block _ (lt_of_block h.box)).trans h.box, (hb.block _ (lt_of_block h.res)).trans h.res, h.bel.trans (hb.mono h.bel.size)⟩
theorem RfI.start (w : World) (ua la ia pa : Value) (x : Value) : RfI w ((w.alloc (.cells #[ua, la, ia, pa] 32)).alloc (.cells #[.slice none 0 0, .slice none 0 0, .slice none 0 0, .slice none 0 0] 32)) ua x la x ia x pa x :=
  ⟨by rw [Below.heap_alloc _ _ _ (by simp)]; exact heap_alloc_new w _, by simpa using heap_alloc_new (w.alloc (.cells #[ua, la, ia, pa] 32)) (.cells #[.slice none 0 0, .slice none 0 0, .slice none 0 0, .slice none 0 0] 32), (below_one _ _).trans ((below_one _ _).mono (by simp))⟩
def set4 (w : World) (p : Nat) (v0 v1 v2 v3 : Value) : World := (((w.setCell ⟨p, 0, none⟩ v0).setCell ⟨p, 1, none⟩ v1).setCell ⟨p, 2, none⟩ v2).setCell ⟨p, 3, none⟩ v3
theorem set4_box {w : World} {p : Nat} {c0 c1 c2 c3 : Value} {t : TypeId} (h : w.heap[p]? = some (.cells #[c0, c1, c2, c3] t (0, 0))) (v0 v1 v2 v3 : Value) : (set4 w p v0 v1 v2 v3).heap[p]? = some (.cells #[v0, v1, v2, v3] t (0, 0)) := by
  unfold set4
  have h0 : (w.setCell ⟨p, 0, none⟩ v0).heap[p]? = some (.cells #[v0, c1, c2, c3] t (0, 0)) := by simpa using bx_set (j := 0) h v0
  have h1 : ((w.setCell ⟨p, 0, none⟩ v0).setCell ⟨p, 1, none⟩ v1).heap[p]? = some (.cells #[v0, v1, c2, c3] t (0, 0)) := by simpa using bx_set (j := 1) h0 v1
  have h2 : (((w.setCell ⟨p, 0, none⟩ v0).setCell ⟨p, 1, none⟩ v1).setCell ⟨p, 2, none⟩ v2).heap[p]? = some (.cells #[v0, v1, v2, c3] t (0, 0)) := by simpa using bx_set (j := 2) h1 v2
  simpa using bx_set (j := 3) h2 v3
theorem set4_other {w : World} {p k : Nat} (hk : k ≠ p) (v0 v1 v2 v3 : Value) : (set4 w p v0 v1 v2 v3).heap[k]? = w.heap[k]? := by
  unfold set4
  rw [Below.heap_setCell _ _ _ _ (by simpa using hk), Below.heap_setCell _ _ _ _ (by simpa using hk), Below.heap_setCell _ _ _ _ (by simpa using hk), Below.heap_setCell _ _ _ _ (by simpa using hk)]
theorem set4_size {w : World} {p : Nat} (v0 v1 v2 v3 : Value) : (set4 w p v0 v1 v2 v3).heap.size = w.heap.size := by simp [set4, World.setCell]
theorem set4_below {w W : World} {B p : Nat} (h : Below B w W) (hp : B ≤ p) (v0 v1 v2 v3 : Value) : Below B w (set4 W p v0 v1 v2 v3) := by
  unfold set4
  exact (((h.setCell hp _).setCell hp _).setCell hp _).setCell hp _
/-- The answer is laid. -/
theorem RfV.answer {w W : World} {R : Rg} {v : Value} (h : RfV w R v) (hb : Below w.heap.size w W) : RfV W R v := h.below hb
theorem KnP.set4 {X : World} {B gp : Nat} {R : Rg} {P : List Pr3} (h : KnP X B gp R P) (p : Nat) (hp : B ≤ p ∧ p ≤ gp) (v0 v1 v2 v3 : Value) : KnP (set4 X p v0 v1 v2 v3) B gp R P := (((h.set p 0 hp v0).set p 1 hp v1).set p 2 hp v2).set p 3 hp v3
/-- The ring is copied and put into its box. -/
theorem RfB.start {w W X : World} {B gu cu gl cl gi ci gp cp : Nat} {U L : List Bool} {I : List Int} {P : List Pr3} {u0 u1 u2 u3 y : Value} (hI : RfI w W u0 y u1 y u2 y u3 y) (ho : RfO W.heap.size X gu cu gl cl gi ci gp cp U L I P) (hb : Below W.heap.size W X) :
    RfB w (set4 X w.heap.size (.slice (some ⟨gu, 0, none⟩) 32 cu) (.slice (some ⟨gl, 0, none⟩) 32 cl) (.slice (some ⟨gi, 0, none⟩) 32 ci) (.slice (some ⟨gp, 0, none⟩) 32 cp)) gu cu gl cl gi ci gp cp U L I P := by
  have h' := hI.below hb
  have hlt := lt_of_block hI.res
  have hgu := (ho.u.lt gu rfl).1
  have hn := ho.ne
  refine ⟨set4_box h'.box _ _ _ _, (set4_other (by omega) _ _ _ _).trans h'.res, (ho.kept (fun g hg => set4_other (by omega) _ _ _ _)).low (by omega), set4_below h'.bel (Nat.le_refl _) _ _ _ _, by omega⟩

/-- What a member knows, in its three cells. -/
theorem KnP.at {X : World} {B gp : Nat} {R : Rg} {P : List Pr3} (h : KnP X B gp R P) (hi : Inv R) {k : Nat} (hk : R.lives k = true) : k < 32 ∧ (P.getD k pr30).id = (R.know k).id ∧ (P.getD k pr30).pred = (R.know k).pred ∧ (P.getD k pr30).len = 3 ∧ PeIn X (R.know k).id (R.know k).pred (P.getD k pr30).a 3 (P.getD k pr30).cap (R.know k).succ ∧ ∀ z, (P.getD k pr30).a = some z → z.block < B ∨ gp < z.block := by
  have hk0 := hi.rng _ hk
  have hl := hi.len _ hk
  have hk32 : k < 32 := by omega
  cases hy : R.kn k with
  | none => simp [Rg.lives, hy] at hk
  | some y =>
    have e : R.know k = y := by simp [Rg.know, hy]
    rw [e] at hl ⊢
    have hp := h k hk32 y hy
    have h3 : (P.getD k pr30).len = 3 := by rw [← hp.2.2.1.row.1]; exact hl
    refine ⟨hk32, hp.1, hp.2.1, h3, ?_, hp.2.2.2⟩
    rw [← h3]; exact hp.2.2.1
end Go.Proofs.YtmajlldfiiokoaaGreatDoor

/- wigwagref10.Round. -/
namespace Go.Proofs.YtmajlldfiiokoaaGreatDoor
open Go.ChangeShapes Go.WideShapes Go.ChangeAt Go.RowKit Go.Deep
set_option linter.unusedVariables false

theorem RfV.shape {w : World} {R : Rg} {v : Value} (h : RfV w R v) : ∃ a0 a1 a2 a3, v = .agg #[a0, a1, a2, a3] ∧ ∃ ua uc la lc ia ic pa pc, a0 = .slice ua 32 uc ∧ a1 = .slice la 32 lc ∧ a2 = .slice ia 32 ic ∧ a3 = .slice pa 32 pc := by
  obtain ⟨ua, uc, la, lc, ia, ic, pa, pc, P, rfl, _⟩ := h.ex
  exact ⟨_, _, _, _, rfl, ua, uc, la, lc, ia, ic, pa, pc, rfl, rfl, rfl, rfl⟩
/-- No row of the document's ring lies where slices lie. -/
theorem InRow.off {α : Type} {k : Nat} {enc : α → List Value} {ok : α → Prop} {d : α} {w w' : World} {a : Option Addr} {n : Nat} {zs : List α} (h : InRow k enc ok d w a n zs) (hk : 0 < k) (hns : ∀ x : α, ∃ u, (enc x)[0]? = some u ∧ ∀ a n c, u ≠ .slice a n c) (hs : w.heap.size ≤ w'.heap.size) (hoff : ∀ b x v, w.cell? ⟨b, x, none⟩ = some v → (∀ a n c, v ≠ .slice a n c) → w'.heap[b]? = w.heap[b]?) : InRow k enc ok d w' a n zs := by
  refine ⟨h.1, h.2.1, ?_⟩
  rcases h.2.2 with h0 | ⟨b, o, ha, hlt, hc⟩
  · exact .inl h0
  · by_cases h0 : n = 0
    · exact .inl h0
    obtain ⟨u, hu, hus⟩ := hns (zs.getD 0 d)
    have e := (hc 0 (by omega)).2 0 hk
    rw [hu] at e
    have hb := hoff b _ u e hus
    exact .inr ⟨b, o, ha, Nat.lt_of_lt_of_le hlt hs, fun i hi => ⟨(hc i hi).1, fun j hj => (World.cell?_of_block (a := ⟨b, o + i * k + j, none⟩) hb).trans ((hc i hi).2 j hj)⟩⟩
theorem RfV.off {w w' : World} {R : Rg} {v : Value} (h : RfV w R v) (hs : w.heap.size ≤ w'.heap.size) (hoff : ∀ b x v, w.cell? ⟨b, x, none⟩ = some v → (∀ a n c, v ≠ .slice a n c) → w'.heap[b]? = w.heap[b]?) : RfV w' R v := by
  obtain ⟨ua, uc, la, lc, ia, ic, pa, pc, P, e, h1, h2, h3, h4, h5⟩ := h.ex
  have nB : ∀ x : Bool, ∃ u, (encB x)[0]? = some u ∧ ∀ a n c, u ≠ .slice a n c := fun x => ⟨_, rfl, fun _ _ _ q => by cases q⟩
  have nU : ∀ x : Int, ∃ u, (encU x)[0]? = some u ∧ ∀ a n c, u ≠ .slice a n c := fun x => ⟨_, rfl, fun _ _ _ q => by cases q⟩
  have nI : ∀ x : Int, ∃ u, (encI x)[0]? = some u ∧ ∀ a n c, u ≠ .slice a n c := fun x => ⟨_, rfl, fun _ _ _ q => by cases q⟩
  have nP : ∀ x : Pr3, ∃ u, (x.cells)[0]? = some u ∧ ∀ a n c, u ≠ .slice a n c := fun x => ⟨_, rfl, fun _ _ _ q => by cases q⟩
  exact ⟨ua, uc, la, lc, ia, ic, pa, pc, P, e, h1.off (by omega) nB hs hoff, h2.off (by omega) nB hs hoff, h3.off (by omega) nU hs hoff, h4.off (by omega) nP hs hoff, fun k hk x hx =>
    have q := h5 k hk x hx
    ⟨q.1, q.2.1, q.2.2.hid, q.2.2.hpred, q.2.2.row.off (by omega) nI hs hoff, q.2.2.hcap, q.2.2.hmost, q.2.2.hnil⟩⟩
theorem off_set4 {w : World} {p : Nat} {c0 c1 c2 c3 : Value} {t : TypeId} (h : w.heap[p]? = some (.cells #[c0, c1, c2, c3] t (0, 0))) (h0 : ∃ a n c, c0 = .slice a n c) (h1 : ∃ a n c, c1 = .slice a n c) (h2 : ∃ a n c, c2 = .slice a n c) (h3 : ∃ a n c, c3 = .slice a n c) (v0 v1 v2 v3 : Value) :
    ∀ b x v, w.cell? ⟨b, x, none⟩ = some v → (∀ a n c, v ≠ .slice a n c) → (set4 w p v0 v1 v2 v3).heap[b]? = w.heap[b]? := by
  intro b x v hc hv
  by_cases e : b = p
  · subst e
    exfalso
    obtain ⟨a0, n0, d0, rfl⟩ := h0
    obtain ⟨a1, n1, d1, rfl⟩ := h1
    obtain ⟨a2, n2, d2, rfl⟩ := h2
    obtain ⟨a3, n3, d3, rfl⟩ := h3
    have hx : x < 4 := by
      rcases Nat.lt_or_ge x 4 with q | q
      · exact q
      · simp [World.cell?, h] at hc
        rw [List.getElem?_eq_none (by simpa using q)] at hc
        cases hc
    have : x = 0 ∨ x = 1 ∨ x = 2 ∨ x = 3 := by omega
    rcases this with rfl | rfl | rfl | rfl <;> (simp [World.cell?, h] at hc; exact hv _ _ _ hc.symm)
  · exact set4_other e _ _ _ _
end Go.Proofs.YtmajlldfiiokoaaGreatDoor

/- wigwagref10.Fail. -/
namespace Go.Proofs.YtmajlldfiiokoaaGreatDoor
open Go.ChangeShapes Go.WideShapes Go.ChangeAt Go.RowKit Go.Deep
set_option linter.unusedVariables false

theorem KnP.del {X : World} {B gp : Nat} {R : Rg} {P : List Pr3} (h : KnP X B gp R P) (n : Int) : KnP X B gp (R.delK n) P := fun k hk x hx => by
  refine h k hk x ?_
  simp only [Rg.delK, upd] at hx
  split at hx
  · cases hx
  · exact hx
theorem ul_set (L : List Int) (k : Nat) (b : Int) : (ul L).set k (.int .u64 b) = ul (L.set k b) := by simp [ul, List.map_set]
theorem RfO.setI {B : Nat} {w : World} {gu cu gl cl gi ci gp cp : Nat} {U L : List Bool} {I : List Int} {P : List Pr3} (h : RfO B w gu cu gl cl gi ci gp cp U L I P) (k : Nat) (b : Int) (hb : u64 b) : RfO B (w.setCell ⟨gi, k, none⟩ (.int .u64 b)) gu cu gl cl gi ci gp cp U L (I.set k b) P := by
  have hn := h.ne
  have hs := (h.i.stored k (.int .u64 b)).1
  rw [ul_set] at hs
  have ho : ∀ g, g ≠ gi → (w.setCell ⟨gi, k, none⟩ (.int .u64 b)).heap[g]? = w.heap[g]? := fun g hg => Below.heap_setCell _ _ _ _ (by simpa using hg)
  refine ⟨row_kept h.u (fun g hg => ?_), row_kept h.l (fun g hg => ?_), hs, row_kept h.p (fun g hg => ?_), h.ne, fun x hx => ?_, h.ok.2⟩
  · simp [Value.ownBlock] at hg; exact ho g (by omega)
  · simp [Value.ownBlock] at hg; exact ho g (by omega)
  · simp [Value.ownBlock] at hg; exact ho g (by omega)
  · rcases List.mem_or_eq_of_mem_set hx with r | r
    · exact h.ok.1 x r
    · rw [r]; exact hb
end Go.Proofs.YtmajlldfiiokoaaGreatDoor

/- wigwagref10.Join. -/
namespace Go.Proofs.YtmajlldfiiokoaaGreatDoor
open Go.ChangeShapes Go.WideShapes Go.ChangeAt Go.RowKit Go.Deep
set_option linter.unusedVariables false

theorem KnP.join {X : World} {B gp : Nat} {R : Rg} {P : List Pr3} (h : KnP X B gp R P) (hl : P.length = 32) {k : Nat} (hk : k < 32) (id x : Int) (hid : u64 id) (hx : i64 x) (a' : Option Addr) (c' : Nat) (l : List Int) (hll : l = (R.know x).succ) (n : Nat) (hin : InIn X a' n l) (hc1 : n ≤ c') (hc2 : c' ≤ 9223372036854775807) (hcl : ∀ z, a' = some z → z.block < B ∨ gp < z.block) (hnil : a' = none → n = 0) :
    KnP X B gp (R.joined k id x) (P.set k ⟨id, x, a', n, c'⟩) := by
  intro j hj y hy
  rw [getD_set3 _ _ _ _ (by omega)]
  have e : (R.joined k id x).kn j = if (j : Int) = k then some ⟨id, x, (R.know x).succ⟩ else R.kn j := rfl
  rw [e] at hy
  by_cases ej : j = k
  · subst ej
    rw [if_pos rfl] at hy ⊢
    cases hy
    exact ⟨rfl, rfl, ⟨hid, hx, by rw [← hll]; exact hin, hc1, hc2, hnil⟩, hcl⟩
  · rw [if_neg (by omega)] at hy
    rw [if_neg ej]
    exact h j hj y hy
theorem RfB.setI {w X : World} {gu cu gl cl gi ci gp cp : Nat} {U L : List Bool} {I : List Int} {P : List Pr3} (h : RfB w X gu cu gl cl gi ci gp cp U L I P) (k : Nat) (b : Int) (hb : u64 b) : RfB w (X.setCell ⟨gi, k, none⟩ (.int .u64 b)) gu cu gl cl gi ci gp cp U L (I.set k b) P := by
  have hn := h.o.ne
  have hl := h.lo
  exact ⟨(Below.heap_setCell _ _ _ _ (by show w.heap.size ≠ gi; omega)).trans h.box, (Below.heap_setCell _ _ _ _ (by show w.heap.size + 1 ≠ gi; omega)).trans h.res, h.o.setI k b hb, h.bel.setCell (by show w.heap.size ≤ gi; omega) _, h.lo⟩
end Go.Proofs.YtmajlldfiiokoaaGreatDoor

/- The document's New: four rows that grow behind one box; behind. -/
namespace Go.Proofs.YtmajlldfiiokoaaGreatDoor
open Go.ChangeShapes Go.WideShapes Go.ChangeAt Go.RowKit Go.Deep
set_option linter.unusedVariables false

theorem bh_next {l : List Int} {x : Int} {c n : Int} (hc : 0 ≤ n ∧ n < 4) (hn : l.getD n.toNat 0 ≠ x) (hmin : ∀ m : Int, 0 ≤ m → m < 4 → m ≠ n → l.getD m.toNat 0 ≠ x → dist x (l.getD n.toNat 0) < dist x (l.getD m.toNat 0)) : bhF l x 4 = n := by
  rcases bhF_spec l x 4 with ⟨_, h2⟩ | ⟨h1, h2, h3, h4⟩
  · exact absurd (h2 n.toNat (by omega)) hn
  · by_cases e : bhF l x 4 = n
    · exact e
    · have q1 := hmin _ h1 h2 e h3
      have q2 := h4 n.toNat (by omega) hn
      omega
theorem dist_lt {x a b : Int} (hx : Plc x) (ha : Plc a) (hb : Plc b) (h : (x < a ∧ a < b) ∨ (b < x ∧ x < a) ∨ (a < b ∧ b < x)) : dist x a < dist x b := by
  unfold Plc at hx ha hb
  unfold dist
  omega
theorem Circ.bh {l C : List Int} {c0 c1 c2 c3 : Int} (h : Circ l C c0 c1 c2 c3) (hr : l.getD c0.toNat 0 < l.getD c1.toNat 0 ∧ l.getD c1.toNat 0 < l.getD c2.toNat 0 ∧ l.getD c2.toNat 0 < l.getD c3.toNat 0) (hu : ∀ k : Nat, Plc (l.getD k 0)) :
    bhF l (l.getD c0.toNat 0) 4 = c1 ∧ bhF l (l.getD c1.toNat 0) 4 = c2 ∧ bhF l (l.getD c2.toNat 0) 4 = c3 ∧ bhF l (l.getD c3.toNat 0) 4 = c0 := by
  have r := h.rng
  have hall := h.all
  have key : ∀ (x n : Int), n ∈ [c0, c1, c2, c3] → l.getD n.toNat 0 ≠ x → (∀ m ∈ [c0, c1, c2, c3], m ≠ n → l.getD m.toNat 0 ≠ x → dist x (l.getD n.toNat 0) < dist x (l.getD m.toNat 0)) → bhF l x 4 = n := fun x n hn hne hm =>
    bh_next (c := 0) (r n hn) hne (fun m h0 h1 h2 h3 => hm m (hall m h0 h1) h2 h3)
  have u0 := hu c0.toNat; have u1 := hu c1.toNat; have u2 := hu c2.toNat; have u3 := hu c3.toNat
  refine ⟨key _ c1 (by simp) (by omega) ?_, key _ c2 (by simp) (by omega) ?_, key _ c3 (by simp) (by omega) ?_, key _ c0 (by simp) (by omega) ?_⟩
  all_goals
    intro m hm h1 h2
    simp only [List.mem_cons, List.not_mem_nil, or_false] at hm
    rcases hm with rfl | rfl | rfl | rfl
    all_goals first
      | exact absurd rfl h1
      | exact absurd rfl h2
      | exact dist_lt (by assumption) (by assumption) (by assumption) (by omega)
def nx (l : List Int) (n : Int) : Int := bhF l (l.getD n.toNat 0) 4
/-- What New lets a base member know. -/
theorem new_kn {l C : List Int} {c0 c1 c2 c3 : Int} (h : Circ l C c0 c1 c2 c3) (hr : l.getD c0.toNat 0 < l.getD c1.toNat 0 ∧ l.getD c1.toNat 0 < l.getD c2.toNat 0 ∧ l.getD c2.toNat 0 < l.getD c3.toNat 0) (hu : ∀ k : Nat, Plc (l.getD k 0)) (n : Int) (h0 : 0 ≤ n) (h4 : n < 4) :
    (newTo l C 4).kn n = some ⟨l.getD n.toNat 0, nx l (nx l (nx l n)), [nx l n, nx l (nx l n), nx l (nx l (nx l n))]⟩ ∧ (0 ≤ nx l n ∧ nx l n < 4) ∧ (newTo l C 4).idOf n = l.getD n.toNat 0 ∧ ((newTo l C 4).pl n).isSome = true := by
  have hb := h.bh hr hu
  have hk := h.kn
  have hrg := h.rng
  have hp := newTo_pl l C 4
  have hl : ∀ x p, (newTo l C 4).kn x = some p → ((newTo l C 4).pl x).isSome = true := fun x p e => hp x (by simp [Rg.lives, e])
  have e0 : nx l c0 = c1 := hb.1
  have e1 : nx l c1 = c2 := hb.2.1
  have e2 : nx l c2 = c3 := hb.2.2.1
  have e3 : nx l c3 = c0 := hb.2.2.2
  have hm := h.all n h0 h4
  simp only [List.mem_cons, List.not_mem_nil, or_false] at hm
  rcases hm with rfl | rfl | rfl | rfl
  · rw [e0, e1, e2]; exact ⟨hk.1, hrg _ (by simp), hk.2.2.2.2.1, hl _ _ hk.1⟩
  · rw [e1, e2, e3]; exact ⟨hk.2.1, hrg _ (by simp), hk.2.2.2.2.2.1, hl _ _ hk.2.1⟩
  · rw [e2, e3, e0]; exact ⟨hk.2.2.1, hrg _ (by simp), hk.2.2.2.2.2.2.1, hl _ _ hk.2.2.1⟩
  · rw [e3, e0, e1]; exact ⟨hk.2.2.2.1, hrg _ (by simp), hk.2.2.2.2.2.2.2.1, hl _ _ hk.2.2.2.1⟩

/-- Four rows of one's own behind a box. -/
structure NwA (B : Nat) (w0 w : World) (b : Nat) (v0 v1 v2 v3 : Value) (U L : List Bool) (I : List Int) (P : List Pr3) : Prop where
  box : w.heap[b]? = some (.cells #[v0, v1, v2, v3] 32 (0, 0))
  u : w.ownsRow B 4 1 v0 U.length (bl U)
  l : w.ownsRow B 4 1 v1 L.length (bl L)
  i : w.ownsRow B 58 1 v2 I.length (ul I)
  p : w.ownsRow B 140 3 v3 P.length (pl3 P)
  a01 : ∀ g, v0.ownBlock = some g → v1.ownBlock ≠ some g
  a02 : ∀ g, v0.ownBlock = some g → v2.ownBlock ≠ some g
  a03 : ∀ g, v0.ownBlock = some g → v3.ownBlock ≠ some g
  a12 : ∀ g, v1.ownBlock = some g → v2.ownBlock ≠ some g
  a13 : ∀ g, v1.ownBlock = some g → v3.ownBlock ≠ some g
  a23 : ∀ g, v2.ownBlock = some g → v3.ownBlock ≠ some g
  lo : b < B
  b0 : w0.heap.size < b
  res : w.heap[w0.heap.size]? = some (.cells #[.slice none 0 0, .slice none 0 0, .slice none 0 0, .slice none 0 0] 32 (0, 0))
  bel : Below w0.heap.size w0 w
theorem NwA.below {B : Nat} {w0 w w' : World} {b : Nat} {v0 v1 v2 v3 : Value} {U L : List Bool} {I : List Int} {P : List Pr3} (h : NwA B w0 w b v0 v1 v2 v3 U L I P) (hb : Below w.heap.size w w') : NwA B w0 w' b v0 v1 v2 v3 U L I P :=
  ⟨(hb.block b (lt_of_block h.box)).trans h.box, row_below h.u hb, row_below h.l hb, row_below h.i hb, row_below h.p hb, h.a01, h.a02, h.a03, h.a12, h.a13, h.a23, h.lo, h.b0, (hb.block _ (lt_of_block h.res)).trans h.res, h.bel.trans (hb.mono h.bel.size)⟩
theorem NwA.app0 {B : Nat} {w0 w w1 : World} {b : Nat} {v0 v1 v2 v3 v' : Value} {U L : List Bool} {I : List Int} {P : List Pr3} {n : Nat} {xs : List Value} (h : NwA B w0 w b v0 v1 v2 v3 U L I P) (x : Bool) (hn : n = (U ++ [x]).length) (hxs : xs = bl (U ++ [x])) (ha : Appended B 4 w w1 v0 v' n xs) : NwA B w0 (w1.setCell ⟨b, 0, none⟩ v') b v' v1 v2 v3 (U ++ [x]) L I P := by
  subst hn hxs
  have hg := ha.grown
  have hlo := h.lo
  have hb0 := h.b0
  have hbl := lt_of_block h.box
  have hset : ∀ g, g ≠ b → (w1.setCell ⟨b, 0, none⟩ v').heap[g]? = w1.heap[g]? := fun g hg => Below.heap_setCell _ _ _ _ (by simpa using hg)
  have hold : ∀ g, g < w.heap.size → v0.ownBlock ≠ some g → w1.heap[g]? = w.heap[g]? := fun g h1 h2 => hg.block g h1 (Ne.symm h2)
  have hbb : w1.heap[b]? = w.heap[b]? := hold b hbl (fun e => by have := (h.u.lt b e).1; omega)
  have hoth : ∀ {k n : Nat} {e : TypeId} {vv : Value} {ys : List Value}, w.ownsRow B e k vv n ys → (∀ g, vv.ownBlock = some g → v0.ownBlock ≠ some g) → (w1.setCell ⟨b, 0, none⟩ v').ownsRow B e k vv n ys := fun hr hne => row_kept hr (fun g hgg => (hset g (by have := (hr.lt g hgg).1; omega)).trans (hold g (hr.lt g hgg).2 (hne g hgg)))
  have hnew : ∀ {k n : Nat} {e : TypeId} {vv : Value} {ys : List Value}, w.ownsRow B e k vv n ys → (∀ g, vv.ownBlock = some g → v0.ownBlock ≠ some g) → ∀ g, v'.ownBlock = some g → vv.ownBlock ≠ some g := fun hr hne g hgg hv => by
    rcases ha.new g hgg with q | q
    · exact hne g hv q
    · have := (hr.lt g hv).2; omega
  have hself : (w1.setCell ⟨b, 0, none⟩ v').ownsRow B 4 1 v' (U ++ [x]).length (bl (U ++ [x])) := row_kept ha.row (fun g hgg => hset g (by have := (ha.row.lt g hgg).1; omega))
  have hbel : Below w0.heap.size w0 (w1.setCell ⟨b, 0, none⟩ v') := (h.bel.trans ⟨hg.os, hg.tape, hg.output, hg.size, fun k hk => hold k (by omega) (fun e => by have := (h.u.lt k e).1; omega)⟩).setCell (by show w0.heap.size ≤ b; omega) _
  exact ⟨by simpa using bx_set (j := 0) (hbb.trans h.box) v', hself, hoth h.l (fun g h1 h2 => h.a01 g h2 h1), hoth h.i (fun g h1 h2 => h.a02 g h2 h1), hoth h.p (fun g h1 h2 => h.a03 g h2 h1), hnew h.l (fun g h1 h2 => h.a01 g h2 h1), hnew h.i (fun g h1 h2 => h.a02 g h2 h1), hnew h.p (fun g h1 h2 => h.a03 g h2 h1), h.a12, h.a13, h.a23, h.lo, h.b0, (hset _ (by omega)).trans ((hold _ (lt_of_block h.res) (fun e => by have := (h.u.lt _ e).1; omega)).trans h.res), hbel⟩
theorem NwA.app1 {B : Nat} {w0 w w1 : World} {b : Nat} {v0 v1 v2 v3 v' : Value} {U L : List Bool} {I : List Int} {P : List Pr3} {n : Nat} {xs : List Value} (h : NwA B w0 w b v0 v1 v2 v3 U L I P) (x : Bool) (hn : n = (L ++ [x]).length) (hxs : xs = bl (L ++ [x])) (ha : Appended B 4 w w1 v1 v' n xs) : NwA B w0 (w1.setCell ⟨b, 1, none⟩ v') b v0 v' v2 v3 U (L ++ [x]) I P := by
  subst hn hxs
  have hg := ha.grown
  have hlo := h.lo
  have hb0 := h.b0
  have hbl := lt_of_block h.box
  have hset : ∀ g, g ≠ b → (w1.setCell ⟨b, 1, none⟩ v').heap[g]? = w1.heap[g]? := fun g hg => Below.heap_setCell _ _ _ _ (by simpa using hg)
  have hold : ∀ g, g < w.heap.size → v1.ownBlock ≠ some g → w1.heap[g]? = w.heap[g]? := fun g h1 h2 => hg.block g h1 (Ne.symm h2)
  have hbb : w1.heap[b]? = w.heap[b]? := hold b hbl (fun e => by have := (h.l.lt b e).1; omega)
  have hoth : ∀ {k n : Nat} {e : TypeId} {vv : Value} {ys : List Value}, w.ownsRow B e k vv n ys → (∀ g, vv.ownBlock = some g → v1.ownBlock ≠ some g) → (w1.setCell ⟨b, 1, none⟩ v').ownsRow B e k vv n ys := fun hr hne => row_kept hr (fun g hgg => (hset g (by have := (hr.lt g hgg).1; omega)).trans (hold g (hr.lt g hgg).2 (hne g hgg)))
  have hnew : ∀ {k n : Nat} {e : TypeId} {vv : Value} {ys : List Value}, w.ownsRow B e k vv n ys → (∀ g, vv.ownBlock = some g → v1.ownBlock ≠ some g) → ∀ g, v'.ownBlock = some g → vv.ownBlock ≠ some g := fun hr hne g hgg hv => by
    rcases ha.new g hgg with q | q
    · exact hne g hv q
    · have := (hr.lt g hv).2; omega
  have hself : (w1.setCell ⟨b, 1, none⟩ v').ownsRow B 4 1 v' (L ++ [x]).length (bl (L ++ [x])) := row_kept ha.row (fun g hgg => hset g (by have := (ha.row.lt g hgg).1; omega))
  have hbel : Below w0.heap.size w0 (w1.setCell ⟨b, 1, none⟩ v') := (h.bel.trans ⟨hg.os, hg.tape, hg.output, hg.size, fun k hk => hold k (by omega) (fun e => by have := (h.l.lt k e).1; omega)⟩).setCell (by show w0.heap.size ≤ b; omega) _
  exact ⟨by simpa using bx_set (j := 1) (hbb.trans h.box) v', hoth h.u h.a01, hself, hoth h.i (fun g h1 h2 => h.a12 g h2 h1), hoth h.p (fun g h1 h2 => h.a13 g h2 h1), (fun g h1 h2 => hnew h.u h.a01 g h2 h1), h.a02, h.a03, hnew h.i (fun g h1 h2 => h.a12 g h2 h1), hnew h.p (fun g h1 h2 => h.a13 g h2 h1), h.a23, h.lo, h.b0, (hset _ (by omega)).trans ((hold _ (lt_of_block h.res) (fun e => by have := (h.l.lt _ e).1; omega)).trans h.res), hbel⟩
theorem NwA.app2 {B : Nat} {w0 w w1 : World} {b : Nat} {v0 v1 v2 v3 v' : Value} {U L : List Bool} {I : List Int} {P : List Pr3} {n : Nat} {xs : List Value} (h : NwA B w0 w b v0 v1 v2 v3 U L I P) (x : Int) (hn : n = (I ++ [x]).length) (hxs : xs = ul (I ++ [x])) (ha : Appended B 58 w w1 v2 v' n xs) : NwA B w0 (w1.setCell ⟨b, 2, none⟩ v') b v0 v1 v' v3 U L (I ++ [x]) P := by
  subst hn hxs
  have hg := ha.grown
  have hlo := h.lo
  have hb0 := h.b0
  have hbl := lt_of_block h.box
  have hset : ∀ g, g ≠ b → (w1.setCell ⟨b, 2, none⟩ v').heap[g]? = w1.heap[g]? := fun g hg => Below.heap_setCell _ _ _ _ (by simpa using hg)
  have hold : ∀ g, g < w.heap.size → v2.ownBlock ≠ some g → w1.heap[g]? = w.heap[g]? := fun g h1 h2 => hg.block g h1 (Ne.symm h2)
  have hbb : w1.heap[b]? = w.heap[b]? := hold b hbl (fun e => by have := (h.i.lt b e).1; omega)
  have hoth : ∀ {k n : Nat} {e : TypeId} {vv : Value} {ys : List Value}, w.ownsRow B e k vv n ys → (∀ g, vv.ownBlock = some g → v2.ownBlock ≠ some g) → (w1.setCell ⟨b, 2, none⟩ v').ownsRow B e k vv n ys := fun hr hne => row_kept hr (fun g hgg => (hset g (by have := (hr.lt g hgg).1; omega)).trans (hold g (hr.lt g hgg).2 (hne g hgg)))
  have hnew : ∀ {k n : Nat} {e : TypeId} {vv : Value} {ys : List Value}, w.ownsRow B e k vv n ys → (∀ g, vv.ownBlock = some g → v2.ownBlock ≠ some g) → ∀ g, v'.ownBlock = some g → vv.ownBlock ≠ some g := fun hr hne g hgg hv => by
    rcases ha.new g hgg with q | q
    · exact hne g hv q
    · have := (hr.lt g hv).2; omega
  have hself : (w1.setCell ⟨b, 2, none⟩ v').ownsRow B 58 1 v' (I ++ [x]).length (ul (I ++ [x])) := row_kept ha.row (fun g hgg => hset g (by have := (ha.row.lt g hgg).1; omega))
  have hbel : Below w0.heap.size w0 (w1.setCell ⟨b, 2, none⟩ v') := (h.bel.trans ⟨hg.os, hg.tape, hg.output, hg.size, fun k hk => hold k (by omega) (fun e => by have := (h.i.lt k e).1; omega)⟩).setCell (by show w0.heap.size ≤ b; omega) _
  exact ⟨by simpa using bx_set (j := 2) (hbb.trans h.box) v', hoth h.u h.a02, hoth h.l h.a12, hself, hoth h.p (fun g h1 h2 => h.a23 g h2 h1), h.a01, (fun g h1 h2 => hnew h.u h.a02 g h2 h1), h.a03, (fun g h1 h2 => hnew h.l h.a12 g h2 h1), h.a13, hnew h.p (fun g h1 h2 => h.a23 g h2 h1), h.lo, h.b0, (hset _ (by omega)).trans ((hold _ (lt_of_block h.res) (fun e => by have := (h.i.lt _ e).1; omega)).trans h.res), hbel⟩
theorem NwA.app3 {B : Nat} {w0 w w1 : World} {b : Nat} {v0 v1 v2 v3 v' : Value} {U L : List Bool} {I : List Int} {P : List Pr3} {n : Nat} {xs : List Value} (h : NwA B w0 w b v0 v1 v2 v3 U L I P) (x : Pr3) (hn : n = (P ++ [x]).length) (hxs : xs = pl3 (P ++ [x])) (ha : Appended3 B 140 w w1 v3 v' n xs) : NwA B w0 (w1.setCell ⟨b, 3, none⟩ v') b v0 v1 v2 v' U L I (P ++ [x]) := by
  subst hn hxs
  have hg := ha.grown
  have hlo := h.lo
  have hb0 := h.b0
  have hbl := lt_of_block h.box
  have hset : ∀ g, g ≠ b → (w1.setCell ⟨b, 3, none⟩ v').heap[g]? = w1.heap[g]? := fun g hg => Below.heap_setCell _ _ _ _ (by simpa using hg)
  have hold : ∀ g, g < w.heap.size → v3.ownBlock ≠ some g → w1.heap[g]? = w.heap[g]? := fun g h1 h2 => hg.block g h1 (Ne.symm h2)
  have hbb : w1.heap[b]? = w.heap[b]? := hold b hbl (fun e => by have := (h.p.lt b e).1; omega)
  have hoth : ∀ {k n : Nat} {e : TypeId} {vv : Value} {ys : List Value}, w.ownsRow B e k vv n ys → (∀ g, vv.ownBlock = some g → v3.ownBlock ≠ some g) → (w1.setCell ⟨b, 3, none⟩ v').ownsRow B e k vv n ys := fun hr hne => row_kept hr (fun g hgg => (hset g (by have := (hr.lt g hgg).1; omega)).trans (hold g (hr.lt g hgg).2 (hne g hgg)))
  have hnew : ∀ {k n : Nat} {e : TypeId} {vv : Value} {ys : List Value}, w.ownsRow B e k vv n ys → (∀ g, vv.ownBlock = some g → v3.ownBlock ≠ some g) → ∀ g, v'.ownBlock = some g → vv.ownBlock ≠ some g := fun hr hne g hgg hv => by
    rcases ha.new g hgg with q | q
    · exact hne g hv q
    · have := (hr.lt g hv).2; omega
  have hself : (w1.setCell ⟨b, 3, none⟩ v').ownsRow B 140 3 v' (P ++ [x]).length (pl3 (P ++ [x])) := row_kept ha.row (fun g hgg => hset g (by have := (ha.row.lt g hgg).1; omega))
  have hbel : Below w0.heap.size w0 (w1.setCell ⟨b, 3, none⟩ v') := (h.bel.trans ⟨hg.os, hg.tape, hg.output, hg.size, fun k hk => hold k (by omega) (fun e => by have := (h.p.lt k e).1; omega)⟩).setCell (by show w0.heap.size ≤ b; omega) _
  exact ⟨by simpa using bx_set (j := 3) (hbb.trans h.box) v', hoth h.u h.a03, hoth h.l h.a13, hoth h.i h.a23, hself, h.a01, h.a02, (fun g h1 h2 => hnew h.u h.a03 g h2 h1), h.a12, (fun g h1 h2 => hnew h.l h.a13 g h2 h1), (fun g h1 h2 => hnew h.i h.a23 g h2 h1), h.lo, h.b0, (hset _ (by omega)).trans ((hold _ (lt_of_block h.res) (fun e => by have := (h.p.lt _ e).1; omega)).trans h.res), hbel⟩
theorem NwA.setI {B : Nat} {w0 w : World} {b : Nat} {v0 v1 v3 : Value} {gi ci : Nat} {U L : List Bool} {I : List Int} {P : List Pr3} (h : NwA B w0 w b v0 v1 (.slice (some ⟨gi, 0, none⟩) I.length ci) v3 U L I P) (k : Nat) (x : Int) : NwA B w0 (w.setCell ⟨gi, k, none⟩ (.int .u64 x)) b v0 v1 (.slice (some ⟨gi, 0, none⟩) I.length ci) v3 U L (I.set k x) P := by
  have hB := (h.i.lt gi rfl).1
  have hlo := h.lo
  have hb0 := h.b0
  have hs := (h.i.stored k (.int .u64 x)).1
  rw [ul_set] at hs
  have ho : ∀ g, g ≠ gi → (w.setCell ⟨gi, k, none⟩ (.int .u64 x)).heap[g]? = w.heap[g]? := fun g hg => Below.heap_setCell _ _ _ _ (by simpa using hg)
  exact ⟨(ho b (by omega)).trans h.box, row_kept h.u (fun g hg => ho g (fun e => h.a02 g hg (by rw [e]; rfl))), row_kept h.l (fun g hg => ho g (fun e => h.a12 g hg (by rw [e]; rfl))), by rw [List.length_set]; exact hs, row_kept h.p (fun g hg => ho g (fun e => h.a23 gi rfl (by rw [← e]; exact hg))), h.a01, h.a02, h.a03, h.a12, h.a13, h.a23, h.lo, h.b0, (ho _ (by omega)).trans h.res, h.bel.setCell (by show w0.heap.size ≤ gi; omega) _⟩
theorem NwA.setP {B : Nat} {w0 w : World} {b : Nat} {v0 v1 v2 : Value} {gp cp : Nat} {U L : List Bool} {I : List Int} {P : List Pr3} (h : NwA B w0 w b v0 v1 v2 (.slice (some ⟨gp, 0, none⟩) P.length cp) U L I P) {k j : Nat} (hk : k < P.length) (hj : j < 3) (u : Value) (q : Pr3) (hq : q.cells = (P.getD k pr30).cells.set j u) : NwA B w0 (w.setCell ⟨gp, k * 3 + j, none⟩ u) b v0 v1 v2 (.slice (some ⟨gp, 0, none⟩) (P.set k q).length cp) U L I (P.set k q) := by
  have hB := (h.p.lt gp rfl).1
  have hlo := h.lo
  have hb0 := h.b0
  have hs := (h.p.stored (k * 3 + j) u).1
  rw [pl3_set P k j hk hj u q hq] at hs
  have ho : ∀ g, g ≠ gp → (w.setCell ⟨gp, k * 3 + j, none⟩ u).heap[g]? = w.heap[g]? := fun g hg => Below.heap_setCell _ _ _ _ (by simpa using hg)
  rw [List.length_set]
  exact ⟨(ho b (by omega)).trans h.box, row_kept h.u (fun g hg => ho g (fun e => h.a03 g hg (by rw [e]; rfl))), row_kept h.l (fun g hg => ho g (fun e => h.a13 g hg (by rw [e]; rfl))), row_kept h.i (fun g hg => ho g (fun e => h.a23 g hg (by rw [e]; rfl))), by rw [List.length_set]; exact hs, h.a01, h.a02, h.a03, h.a12, h.a13, h.a23, h.lo, h.b0, (ho _ (by omega)).trans h.res, h.bel.setCell (by show w0.heap.size ≤ gp; omega) _⟩
end Go.Proofs.YtmajlldfiiokoaaGreatDoor

/- wigwagref10.behind. -/
namespace Go.Proofs.YtmajlldfiiokoaaGreatDoor
open Go.ChangeShapes Go.WideShapes Go.ChangeAt Go.RowKit Go.Deep
set_option linter.unusedVariables false

set_option maxRecDepth 100000 in
set_option maxHeartbeats 4000000 in
theorem rbehind_r (a : Option Addr) (cap : Nat) (l : List Int) (x : Int) (w : World) (h : IdIn w a 4 l) (hx : 0 ≤ x ∧ x ≤ 18446744073709551615) :
    Calls Tryz.prog 90 #[.slice a 4 cap, .int .u64 x] w fun e w' => e = .returned (.int .i64 (bhF l x 4)) ∧ Below w.heap.size w w' := by
  have HI : Hid (IdIn w a 4 l ∧ (0 ≤ x ∧ x ≤ 18446744073709551615)) := ⟨h, hx⟩
  clear h hx
  go_enter Tryz.func90, Tryz.ntmps90
  go_wp2
  go_loopg [10, 5] 4 (fun kx s bs wr => ∃ j : Nat, s = .int .i64 j ∧ bs = .int .i64 (bhF l x j) ∧ j ≤ 4 ∧ kx = 4 - j ∧ Hid (Below w.heap.size w wr))
  case atStart => exact ⟨0, rfl, rfl, Nat.zero_le _, rfl, (Below.refl _ _ : Below w.heap.size w w)⟩
  case round =>
    obtain ⟨j, rfl, rfl, hj, rfl, HB⟩ := hrel
    by_cases hlt : j < 4
    · have hj0 : (0 : Int) ≤ (j : Int) := Int.natCast_nonneg _
      have hj1 : (j : Int) < 4 := by omega
      obtain ⟨b, o, ha, hb, hy, hc⟩ := (HI.out.1.below (Nat.le_refl _) HB.out).one (v := Value.int .u64) (fun _ => rfl) (i := j) hlt
      subst ha
      have hsp := bhF_spec l x j
      have hst : bhF l x (j + 1) = if l.getD j 0 ≠ x ∧ (bhF l x j < 0 ∨ dist x (l.getD j 0) < dist x (l.getD (bhF l x j).toNat 0)) then (j : Int) else bhF l x j := rfl
      have HST : Hid _ := hst
      clear hst
      obtain ⟨y, hyy⟩ : ∃ y, y = l.getD j 0 := ⟨_, rfl⟩
      have HY : Hid (y = l.getD j 0 ∧ (0 ≤ y ∧ y ≤ 18446744073709551615)) := ⟨hyy, by rw [hyy]; exact hy⟩
      rw [← hyy] at hc
      clear hy
      by_cases he : y = x
      · have ee : (y != x) = false := by simp [he]
        have HN : Hid (bhF l x (j + 1) = bhF l x j) := by
          show bhF l x (j + 1) = bhF l x j
          rw [HST.out, if_neg (fun q => q.1 (by rw [← hyy]; exact he))]
        clear hsp HST hyy he
        generalize bhF l x j = bj at HN ⊢
        go_wp2_with (go_quiet (fail))
        go_roundg (4 - (j + 1))
        case measure => omega
        case rel => exact ⟨j + 1, by go_num, by rw [HN.out], by omega, rfl, below_drew HB.out _⟩
      · have ee : (y != x) = true := by simpa using he
        rcases hsp with ⟨h1, _⟩ | ⟨h1, h2, h3, _⟩
        · have HN : Hid (bhF l x (j + 1) = j) := by
            show bhF l x (j + 1) = (j : Int)
            rw [HST.out, if_pos ⟨by rw [← hyy]; exact he, .inl (by omega)⟩]
          rw [h1]
          clear HST hyy he h1
          have e2 : ((-1 : Int) < 0) := by omega
          go_wp2_with (go_quiet (fail))
          go_roundg (4 - (j + 1))
          case measure => omega
          case rel => exact ⟨j + 1, by go_num, by rw [HN.out], by omega, rfl, below_drew HB.out _⟩
        · obtain ⟨q, hq⟩ : ∃ q : Nat, bhF l x j = q := ⟨(bhF l x j).toNat, by omega⟩
          have hqj : q < j := by omega
          have hqI : (0 : Int) ≤ (q : Int) ∧ (q : Int) < 4 := by omega
          have hqn : ¬ (q : Int) < 0 := by omega
          have hqd : decide ((q : Int) < 0) = false := by simp
          obtain ⟨b', o', ha', hb', hz, hc'⟩ := (HI.out.1.below (Nat.le_refl _) HB.out).one (v := Value.int .u64) (fun _ => rfl) (i := q) (by omega)
          simp only [Option.some.injEq, Addr.mk.injEq, and_true] at ha'
          obtain ⟨rfl, rfl⟩ := ha'
          obtain ⟨z, hzz⟩ : ∃ z, z = l.getD q 0 := ⟨_, rfl⟩
          have HZ : Hid (0 ≤ z ∧ z ≤ 18446744073709551615) := by rw [hzz]; exact hz
          rw [← hzz] at hc'
          rw [hq, Int.toNat_natCast, ← hzz, ← hyy] at HST
          rw [hq]
          clear hz h1 h2 h3 hq hyy hzz
          by_cases hd : dist x y < dist x z
          · have HN : Hid (bhF l x (j + 1) = j) := by
              show bhF l x (j + 1) = (j : Int)
              rw [HST.out, if_pos ⟨he, .inr hd⟩]
            clear HST he
            go_wp2_with (go_quiet ((go_at_call 121; first | exact Calls.quiet_of_same (refdist_any _ _ _ HI.out.2 HY.out.2) | exact Calls.quiet_of_same (refdist_any _ _ _ HI.out.2 HZ.out))))
            go_roundg (4 - (j + 1))
            case measure => omega
            case rel => exact ⟨j + 1, by go_num, by rw [HN.out], by omega, rfl, below_drew HB.out _⟩
          · have HN : Hid (bhF l x (j + 1) = q) := by
              show bhF l x (j + 1) = (q : Int)
              rw [HST.out, if_neg (fun hh => hh.2.elim (fun h => hqn h) (fun h => hd h))]
            clear HST he
            go_wp2_with (go_quiet ((go_at_call 121; first | exact Calls.quiet_of_same (refdist_any _ _ _ HI.out.2 HY.out.2) | exact Calls.quiet_of_same (refdist_any _ _ _ HI.out.2 HZ.out))))
            go_roundg (4 - (j + 1))
            case measure => omega
            case rel => exact ⟨j + 1, by go_num, by rw [HN.out], by omega, rfl, below_drew HB.out _⟩
    · obtain rfl : j = 4 := by omega
      go_wp2
      go_ret
      exact ⟨rfl, HB.out⟩
end Go.Proofs.YtmajlldfiiokoaaGreatDoor

/- What the document's New leaves. -/
namespace Go.Proofs.YtmajlldfiiokoaaGreatDoor
open Go.ChangeShapes Go.WideShapes Go.ChangeAt Go.RowKit Go.Deep
set_option linter.unusedVariables false

def itn (l : List Int) (n : Int) : Nat → Int
  | 0 => n
  | j + 1 => nx l (itn l n j)
def lst (l : List Int) (n : Int) : Nat → List Int
  | 0 => []
  | j + 1 => lst l n j ++ [itn l n (j + 1)]
theorem itn_rng {l : List Int} (h : ∀ n, 0 ≤ n → n < 4 → 0 ≤ nx l n ∧ nx l n < 4) {n : Int} (h0 : 0 ≤ n) (h4 : n < 4) (j : Nat) : 0 ≤ itn l n j ∧ itn l n j < 4 := by
  induction j with
  | zero => exact ⟨h0, h4⟩
  | succ j ih => exact h _ ih.1 ih.2
theorem lst_ok {l : List Int} (h : ∀ n, 0 ≤ n → n < 4 → 0 ≤ nx l n ∧ nx l n < 4) {n : Int} (h0 : 0 ≤ n) (h4 : n < 4) (j : Nat) : ∀ x ∈ lst l n j, i64 x := by
  induction j with
  | zero => intro x hx; cases hx
  | succ j ih =>
    intro x hx
    rcases List.mem_append.1 hx with q | q
    · exact ih x q
    · simp at q
      have := itn_rng h h0 h4 (j + 1)
      rw [q]; unfold i64; omega

/-- A member's list that grows in its box. -/
structure In4 (wr wq : World) (id : Int) (vS : Value) (l : List Int) (n : Int) (j : Nat) : Prop where
  box : wq.heap[wr.heap.size]? = some (.cells #[.int .u64 id, .int .i64 (-1), vS] 140 (0, 0))
  row : wq.ownsRow (wr.heap.size + 1) 3 1 vS j ((lst l n j).map cellI)
  bel : Below wr.heap.size wr wq
theorem In4.below {wr wq wq' : World} {id : Int} {vS : Value} {l : List Int} {n : Int} {j : Nat} (h : In4 wr wq id vS l n j) (hb : Below wq.heap.size wq wq') : In4 wr wq' id vS l n j :=
  ⟨(hb.block _ (lt_of_block h.box)).trans h.box, row_below h.row hb, h.bel.trans (hb.mono h.bel.size)⟩
theorem In4.app {wr wq w3 : World} {id y : Int} {vS v' : Value} {l : List Int} {n : Int} {j : Nat} (h : In4 wr wq id vS l n j) (hy : y = itn l n (j + 1)) (ha : Appended (wr.heap.size + 1) 3 wq w3 vS v' (j + 1) ((lst l n j).map cellI ++ [cellI y])) : In4 wr (w3.setCell ⟨wr.heap.size, 2, none⟩ v') id v' l n (j + 1) := by
  subst hy
  have hg := ha.grown
  have hbl := lt_of_block h.box
  have hq : w3.heap[wr.heap.size]? = wq.heap[wr.heap.size]? := hg.block _ hbl (fun e => by have := (h.row.lt _ e.symm).1; omega)
  refine ⟨by simpa using bx_set (j := 2) (hq.trans h.box) v', ?_, ?_⟩
  · have hr : w3.ownsRow (wr.heap.size + 1) 3 1 v' (j + 1) ((lst l n (j + 1)).map cellI) := by
      have := ha.row
      simpa [lst] using this
    exact row_kept hr (fun g hgg => Below.heap_setCell _ _ _ _ (by have := (hr.lt g hgg).1; simp; omega))
  · exact (h.bel.trans ⟨hg.os, hg.tape, hg.output, hg.size, fun k hk => hg.block k (by omega) (fun e => by have := (h.row.lt _ e.symm).1; omega)⟩).setCell (by show wr.heap.size ≤ wr.heap.size; omega) _
theorem In4.start (wr : World) (id : Int) (l : List Int) (n : Int) : In4 wr (wr.alloc (.cells #[.int .u64 id, .int .i64 (-1), .slice none 0 0] 140)) id (.slice none 0 0) l n 0 :=
  ⟨heap_alloc_new wr _, World.ownsRow_nil _ _ _ 1, below_one _ _⟩

/-- The lists that are laid. -/
def LsD (T : Nat) (w : World) (l : List Int) (P : List Pr3) (k : Nat) : Prop := ∀ n : Nat, n < k → ∃ g c, P.getD n pr30 = ⟨l.getD n 0, itn l n 3, some ⟨g, 0, none⟩, 3, c⟩ ∧ InIn w (some ⟨g, 0, none⟩) 3 (lst l n 3) ∧ T ≤ g ∧ 3 ≤ c ∧ c ≤ 9223372036854775807
theorem LsD.below {T : Nat} {w w' : World} {l : List Int} {P : List Pr3} {k : Nat} (h : LsD T w l P k) (hb : Below w.heap.size w w') : LsD T w' l P k := fun n hn => by
  obtain ⟨g, c, h1, h2, h3⟩ := h n hn
  exact ⟨g, c, h1, h2.below (Nat.le_refl _) hb, h3⟩
theorem LsD.set {T : Nat} {w : World} {l : List Int} {P : List Pr3} {k : Nat} (h : LsD T w l P k) {p : Nat} (hp : p < T) (o : Nat) (u : Value) : LsD T (w.setCell ⟨p, o, none⟩ u) l P k := fun n hn => by
  obtain ⟨g, c, h1, h2, h3⟩ := h n hn
  exact ⟨g, c, h1, h2.setCell (fun x hx => by cases hx; show g ≠ p; omega) u, h3⟩
theorem LsD.step {T : Nat} {w : World} {l : List Int} {P : List Pr3} {k : Nat} (h : LsD T w l P k) (hk : k < P.length) {g c : Nat} (hi : InIn w (some ⟨g, 0, none⟩) 3 (lst l k 3)) (hg : T ≤ g) (hc : 3 ≤ c ∧ c ≤ 9223372036854775807) : LsD T w l (P.set k ⟨l.getD k 0, itn l k 3, some ⟨g, 0, none⟩, 3, c⟩) (k + 1) := fun n hn => by
  by_cases e : n = k
  · subst e
    exact ⟨g, c, by simp [List.getD, hk], hi, hg, hc⟩
  · obtain ⟨g', c', h1, h2⟩ := h n (by omega)
    refine ⟨g', c', ?_, h2⟩
    rw [← h1]
    simp [List.getD, Ne.symm e]
theorem NwA.set3 {B : Nat} {w0 w : World} {b : Nat} {v0 v1 v2 : Value} {gp cp : Nat} {U L : List Bool} {I : List Int} {P : List Pr3} (h : NwA B w0 w b v0 v1 v2 (.slice (some ⟨gp, 0, none⟩) P.length cp) U L I P) {k : Nat} (hk : k < P.length) (q : Pr3) : NwA B w0 (((w.setCell ⟨gp, k * 3, none⟩ (.int .u64 q.id)).setCell ⟨gp, k * 3 + 1, none⟩ (.int .i64 q.pred)).setCell ⟨gp, k * 3 + 2, none⟩ (.slice q.a q.len q.cap)) b v0 v1 v2 (.slice (some ⟨gp, 0, none⟩) P.length cp) U L I (P.set k q) := by
  have e0 : P.getD k pr30 = P[k] := by simp [List.getD, hk]
  have h1 := h.setP (k := k) (j := 0) hk (by omega) (.int .u64 q.id) ⟨q.id, P[k].pred, P[k].a, P[k].len, P[k].cap⟩ (by rw [e0]; rfl)
  have h2 := h1.setP (k := k) (j := 1) (by rw [List.length_set]; exact hk) (by omega) (.int .i64 q.pred) ⟨q.id, q.pred, P[k].a, P[k].len, P[k].cap⟩ (by simp [List.getD, hk, Pr3.cells])
  have h3 := h2.setP (k := k) (j := 2) (by simp [hk]) (by omega) (.slice q.a q.len q.cap) q (by simp [List.getD, hk, Pr3.cells])
  simpa using h3

def b4 (j : Nat) : List Bool := (List.range j).map fun k => decide (k < 4)
def i4 (l : List Int) (j : Nat) : List Int := (List.range 32).map fun k => if k < j then l.getD k 0 else 0
theorem b4_succ (j : Nat) : b4 j ++ [decide ((j : Int) < 4)] = b4 (j + 1) := by
  have e : decide ((j : Int) < 4) = decide (j < 4) := by
    rw [decide_eq_decide]; omega
  rw [e]; simp [b4, List.range_succ]
theorem b4_len (j : Nat) : (b4 j).length = j := by simp [b4]
theorem i4_len (l : List Int) (j : Nat) : (i4 l j).length = 32 := by simp [i4]
theorem i4_zero (l : List Int) : i4 l 0 = List.replicate 32 0 := by
  refine List.eq_replicate_iff.2 ⟨i4_len l 0, fun x hx => ?_⟩
  obtain ⟨k, _, rfl⟩ := List.mem_map.1 hx
  simp
theorem i4_set (l : List Int) (j : Nat) (hj : j < 32) : (i4 l j).set j (l.getD j 0) = i4 l (j + 1) := by
  apply List.ext_getElem (by simp [i4])
  intro k h1 h2
  simp only [i4, List.getElem_set, List.getElem_map, List.getElem_range]
  by_cases e : j = k
  · rw [if_pos e, if_pos (by omega), e]
  · rw [if_neg e]
    by_cases q : k < j
    · rw [if_pos q, if_pos (by omega)]
    · rw [if_neg q, if_neg (by omega)]
theorem new_rows {l S : List Int} {c0 c1 c2 c3 : Int} (h : Circ l (circleOf l S) c0 c1 c2 c3) (hp : S.Pairwise (· < ·)) (hm : ∀ x, x ∈ S ↔ x ∈ l) (hu : ∀ k : Nat, Plc (l.getD k 0)) :
    usL (newTo l (circleOf l S) 4) = b4 32 ∧ lvL (newTo l (circleOf l S) 4) = b4 32 ∧ idL (newTo l (circleOf l S) 4) = i4 l 4 ∧ ∀ k : Nat, k < 32 → ∀ x, (newTo l (circleOf l S) 4).kn k = some x → k < 4 ∧ x = ⟨l.getD k 0, itn l k 3, lst l k 3⟩ := by
  have hkn := fun n h0 h4 => new_kn h (h.rise hp hm) hu n h0 h4
  have hkN := h.kn.2.2.2.2.2.2.2.2
  have hplX : ∀ n, n ∉ [c0, c1, c2, c3] → (newTo l (circleOf l S) 4).pl n = none := fun n hn => by
    rw [h.eq]
    simp only [List.mem_cons, List.not_mem_nil, or_false, not_or] at hn
    simp [newTo, Rg.setK, Rg.setP, upd, rg0, hn.1, hn.2.1, hn.2.2.1, hn.2.2.2]
  have hout : ∀ k : Nat, ¬ k < 4 → (k : Int) ∉ [c0, c1, c2, c3] := fun k hk hq => by have := h.rng _ hq; omega
  generalize newTo l (circleOf l S) 4 = R at *
  refine ⟨?_, ?_, ?_, fun k hk x hx => ?_⟩
  · apply List.ext_getElem (by simp [usL, b4])
    intro k h1 h2
    simp only [usL, b4, List.getElem_map, List.getElem_range]
    by_cases q : k < 4
    · rw [(hkn k (by omega) (by omega)).2.2.2]; simp [q]
    · rw [hplX _ (hout k q)]; simp [q]
  · apply List.ext_getElem (by simp [lvL, b4])
    intro k h1 h2
    simp only [lvL, b4, List.getElem_map, List.getElem_range]
    by_cases q : k < 4
    · simp [Rg.lives, (hkn k (by omega) (by omega)).1, q]
    · simp [Rg.lives, hkN _ (hout k q), q]
  · apply List.ext_getElem (by simp [idL, i4])
    intro k h1 h2
    simp only [idL, i4, List.getElem_map, List.getElem_range]
    by_cases q : k < 4
    · rw [(hkn k (by omega) (by omega)).2.2.1, if_pos q]; simp
    · rw [if_neg q]; simp [Rg.idOf, hplX _ (hout k q)]
  · by_cases q : k < 4
    · refine ⟨q, ?_⟩
      rw [(hkn k (by omega) (by omega)).1] at hx
      simp only [Option.some.injEq] at hx
      rw [← hx]; rfl
    · rw [hkN _ (hout k q)] at hx; cases hx
theorem NwA.toV {B T : Nat} {w0 w : World} {b gu cu gl cl gi ci gp cp : Nat} {P : List Pr3} {l S : List Int} {c0 c1 c2 c3 : Int} (hc : Circ l (circleOf l S) c0 c1 c2 c3) (hp : S.Pairwise (· < ·)) (hm : ∀ x, x ∈ S ↔ x ∈ l) (hu : ∀ k : Nat, Plc (l.getD k 0)) (hP : P.length = 32) (hPo : ∀ x ∈ P, x.ok)
    (h : NwA B w0 w b (.slice (some ⟨gu, 0, none⟩) 32 cu) (.slice (some ⟨gl, 0, none⟩) 32 cl) (.slice (some ⟨gi, 0, none⟩) 32 ci) (.slice (some ⟨gp, 0, none⟩) 32 cp) (b4 32) (b4 32) (i4 l 4) P) (hd : LsD T w l P 4) :
    RfV w (newTo l (circleOf l S) 4) (.agg #[.slice (some ⟨gu, 0, none⟩) 32 cu, .slice (some ⟨gl, 0, none⟩) 32 cl, .slice (some ⟨gi, 0, none⟩) 32 ci, .slice (some ⟨gp, 0, none⟩) 32 cp]) := by
  obtain ⟨e1, e2, e3, e4⟩ := new_rows hc hp hm hu
  have hkn := fun n h0 h4 => new_kn hc (hc.rise hp hm) hu n h0 h4
  have r0 := h.u; have r1 := h.l; have r2 := h.i; have r3 := h.p
  rw [b4_len] at r0 r1
  rw [i4_len] at r2
  rw [hP] at r3
  have hio : ∀ x ∈ i4 l 4, u64 x := by
    intro x hx
    obtain ⟨k, _, rfl⟩ := List.mem_map.1 hx
    split
    · have := hu k; unfold Plc at this; unfold u64; omega
    · unfold u64; omega
  refine ⟨_, _, _, _, _, _, _, _, P, rfl, by rw [e1]; exact own_inB r0, by rw [e2]; exact own_inB r1, by rw [e3]; exact own_inU r2 hio, own_inP r3 hPo, fun k hk x hx => ?_⟩
  · obtain ⟨q, rfl⟩ := e4 k hk x hx
    obtain ⟨g, c, h1, h2, h3, h4, h5⟩ := hd k q
    rw [h1]
    have hr := itn_rng (fun n h0 h4 => (hkn n h0 h4).2.1) (n := (k : Int)) (by omega) (by omega) 3
    have hk := hu k
    exact ⟨rfl, rfl, by unfold Plc at hk; unfold u64; omega, by show i64 (itn l k 3); unfold i64; omega, h2, h4, h5, fun e => by cases e⟩
end Go.Proofs.YtmajlldfiiokoaaGreatDoor

/- wigwagref10.New. -/
namespace Go.Proofs.YtmajlldfiiokoaaGreatDoor
open Go.ChangeShapes Go.WideShapes Go.ChangeAt Go.RowKit Go.Deep
set_option linter.unusedVariables false

def rf0 : Value := .agg #[.slice none 0 0, .slice none 0 0, .slice none 0 0, .slice none 0 0]
theorem NwA.start (w w2 : World) (b : Nat) (hb : b = w2.heap.size) (hlt : w.heap.size < w2.heap.size) (hres : w2.heap[w.heap.size]? = some (.cells #[.slice none 0 0, .slice none 0 0, .slice none 0 0, .slice none 0 0] 32 (0, 0))) (hbel : Below w.heap.size w w2) :
    NwA (b + 1) w (w2.alloc (.cells #[.slice none 0 0, .slice none 0 0, .slice none 0 0, .slice none 0 0] 32)) b (.slice none 0 0) (.slice none 0 0) (.slice none 0 0) (.slice none 0 0) [] [] [] [] := by
  subst hb
  have hn : ∀ g, (Value.slice none 0 0).ownBlock = some g → (Value.slice none 0 0).ownBlock ≠ some g := fun g h => by simp [Value.ownBlock] at h
  exact ⟨heap_alloc_new w2 _, World.ownsRow_nil _ _ _ 1, World.ownsRow_nil _ _ _ 1, World.ownsRow_nil _ _ _ 1, World.ownsRow_nil _ _ _ 3, hn, hn, hn, hn, hn, hn, Nat.lt_succ_self _, hlt, (Below.heap_alloc _ _ _ hlt).trans hres, hbel.trans ((below_one _ _).mono hbel.size)⟩
theorem src_one {w : World} {T E : TypeId} (hT : Tryz.prog.underlying T = some (.slice E)) (x : Value) (hx : x.oneCell' = true) : Src Tryz.prog 1 T (.slice (some ⟨w.heap.size, 0, none⟩) 1 1) 1 [x] (w.alloc (.cells #[x] E)) :=
  Src.ofSlice _ hT _ _ _ _ rfl (World.news_of_block (cs := #[x]) (t := E) (fr := (0, 0)) (heap_alloc_new w _)) (by intro u hu; simp at hu; subst hu; exact hx)
theorem src_pr3 {w : World} : Src Tryz.prog 3 30 (.slice (some ⟨w.heap.size, 0, none⟩) 1 1) 1 pr30.cells (w.alloc (.cells #[.int .u64 0, .int .i64 0, .slice none 0 0] 140)) :=
  Src.ofSlice _ Tryz.underlying30 _ _ _ _ rfl (World.news_of_block (cs := #[.int .u64 0, .int .i64 0, .slice none 0 0]) (t := 140) (fr := (0, 0)) (heap_alloc_new w _)) (by intro u hu; simp [Pr3.cells, pr30] at hu; rcases hu with rfl | rfl | rfl <;> rfl)

theorem i4_ok {l : List Int} (hu : ∀ k : Nat, Plc (l.getD k 0)) (j : Nat) : ∀ x ∈ i4 l j, u64 x := by
  intro x hx
  obtain ⟨k, _, rfl⟩ := List.mem_map.1 hx
  split
  · have := hu k; unfold Plc at this; unfold u64; omega
  · unfold u64; omega
theorem c3_block {w : World} {b : Nat} {a0 a1 a2 : Value} {t : TypeId} (h : w.heap[b]? = some (.cells #[a0, a1, a2] t (0, 0))) : w.cell? ⟨b, 0, none⟩ = some a0 ∧ w.cell? ⟨b, 1, none⟩ = some a1 ∧ w.cell? ⟨b, 2, none⟩ = some a2 ∧ b < w.heap.size :=
  ⟨by simp [World.cell?, h], by simp [World.cell?, h], by simp [World.cell?, h], lt_of_block h⟩
theorem own_cap {w : World} {B n g c k : Nat} {e : TypeId} {xs : List Value} (h : w.ownsRow B e k (.slice (some ⟨g, 0, none⟩) n c) n xs) : n ≤ c ∧ c ≤ 9223372036854775807 := by
  rcases h.2 with ⟨q, _⟩ | ⟨g', cap, cur, q, _, _, h1, h2, _⟩
  · cases q
  · cases q; unfold maxLen at h2; omega
theorem own_fz {w : World} {B n g c k : Nat} {e : TypeId} {xs : List Value} (h : w.ownsRow B e k (.slice (some ⟨g, 0, none⟩) n c) n xs) (j : Nat) : w.frozen? ⟨g, j, none⟩ = false := by
  rcases h.2 with ⟨q, _⟩ | ⟨g', cap, cur, q, _, hg, _⟩
  · cases q
  · cases q; exact fz_block hg j
theorem plc_u6 {x : Int} (h : Plc x) : 0 ≤ x ∧ x ≤ 18446744073709551615 := by unfold Plc at h; omega
theorem pr_ok {y z : Int} {a : Option Addr} {n c : Nat} (hy : Plc y) (hz : 0 ≤ z ∧ z < 4) : (⟨y, z, a, n, c⟩ : Pr3).ok := by
  unfold Plc at hy
  exact ⟨by show u64 y; unfold u64; omega, by show i64 z; unfold i64; omega⟩

set_option maxRecDepth 100000 in
set_option maxHeartbeats 8000000 in
theorem rnew_four (a : Option Addr) (cap : Nat) (l : List Int) (w : World) (h : IdIn w a 4 l) :
    Calls Tryz.prog 45 #[.slice a 4 cap] w fun e w' =>
      ((∃ S : List Int, S.Pairwise (· < ·) ∧ (∀ x, x ∈ S ↔ x ∈ l) ∧ S.length < 4 ∧ e = .returned (.tuple #[rf0, .int .i64 8])) ∨
       (∃ (S : List Int) (v' : Value), S.Pairwise (· < ·) ∧ (∀ x, x ∈ S ↔ x ∈ l) ∧ S.length = 4 ∧ e = .returned (.tuple #[v', .int .i64 0]) ∧ RfV w' (newTo l (circleOf l S) 4) v')) ∧ Below w.heap.size w w' := by
  obtain ⟨iB0, iBa, iBb, iBc, iBd⟩ := info_ofP Tryz.infoBo
  obtain ⟨iU0, iUa, iUb, iUc, iUd⟩ := info_ofP Tryz.infoU8
  obtain ⟨iP0, iPa, iPb, iPc, iPd⟩ := info_ofP Tryz.infoP3
  obtain ⟨i0, hif, hz0, hz1, hz2⟩ := info_of Tryz.infoInt
  have HI : Hid (IdIn w a 4 l) := h
  have HLL : Hid (l.length = 4) := h.1
  have HU : Hid (∀ k : Nat, Plc (l.getD k 0)) := fun k => by
    by_cases q : k < 4
    · have := inrow_ok h (by omega) (l.getD k 0) (by rw [List.getD_eq_getElem?_getD, List.getElem?_eq_getElem (by have := h.1; omega)]; simp)
      unfold u64 at this; unfold Plc; omega
    · have e : l.getD k 0 = 0 := by simp [List.getD, List.getElem?_eq_none (by have := h.1; omega : l.length ≤ k)]
      rw [e]; unfold Plc; omega
  clear h
  go_enter Tryz.func45, Tryz.ntmps45
  obtain ⟨W1, hW1⟩ : ∃ W1, W1 = w.alloc (.cells #[.slice none 0 0, .slice none 0 0, .slice none 0 0, .slice none 0 0] 32) := ⟨_, rfl⟩
  have H1 : Hid (Below w.heap.size w W1 ∧ W1.heap[w.heap.size]? = some (.cells #[.slice none 0 0, .slice none 0 0, .slice none 0 0, .slice none 0 0] 32 (0, 0))) := by rw [hW1]; exact ⟨below_one _ _, heap_alloc_new _ _⟩
  go_upto_region 1 with fail
  rw [← hW1]
  clear hW1
  have hl1 := lt_of_block H1.out.2
  go_wp2_with fail
  refine (refsorted_any a 4 cap l W1 (ids_at (HI.out.below (Nat.le_refl _) H1.out.1)) (by omega)).mono ?_
  rintro e w2 ⟨v, rfl, S, hmd, hp, hmem⟩
  have hSl : S.length ≤ 4 := by have := rise_len S l hp (fun x hx => (hmem x).1 hx); rw [HLL.out] at this; exact this
  have HS : Hid (S.Pairwise (· < ·) ∧ (∀ x, x ∈ S ↔ x ∈ l)) := ⟨hp, hmem⟩
  obtain ⟨sa, sc, hv⟩ := hmd.shape
  subst hv
  have H2 : Hid (Below w.heap.size w w2 ∧ w2.heap[w.heap.size]? = some (.cells #[.slice none 0 0, .slice none 0 0, .slice none 0 0, .slice none 0 0] 32 (0, 0)) ∧ w.heap.size < w2.heap.size) := ⟨H1.out.1.trans (hmd.below.mono H1.out.1.size), (hmd.below.block _ hl1).trans H1.out.2, Nat.lt_of_lt_of_le hl1 hmd.below.size⟩
  clear hp hmem hmd H1 hl1
  by_cases q : S.length < 4
  · obtain ⟨s0, s1, s2, s3, sl⟩ := c4_block H2.out.2.1
    have sf := fz_block H2.out.2.1
    obtain ⟨nS, hnS⟩ : ∃ nS, nS = S.length := ⟨_, rfl⟩
    have HQ : Hid (S.length < 4) := q
    rw [← hnS] at q ⊢
    have hq4 : ((nS : Int) != 4) = true := by simp; omega
    clear hnS hSl
    go_wp2
    refine bodyPost_ret (v := .tuple #[rf0, .int .i64 8]) (by simp [results, Tryz.results45, go_sem, rf0, s0, s1, s2, s3]) rfl ⟨.inl ⟨S, HS.out.1, HS.out.2, HQ.out, rfl⟩, ?_⟩
    exact (((H2.out.1.setCell (Nat.le_refl _) _).setCell (Nat.le_refl _) _).setCell (Nat.le_refl _) _).setCell (Nat.le_refl _) _
  · have hS4 : S.length = 4 := by omega
    rw [hS4]
    have HS4 : Hid (S.length = 4) := hS4
    clear q hSl hS4
    obtain ⟨c0, c1, c2, c3, hcir⟩ := circ_of HLL.out HS.out.1 HS.out.2 HS4.out
    have HC : Hid (Circ l (circleOf l S) c0 c1 c2 c3) := hcir
    have HN : Hid (∀ n, 0 ≤ n → n < 4 → 0 ≤ nx l n ∧ nx l n < 4) := fun n h0 h4 => (new_kn hcir (hcir.rise HS.out.1 HS.out.2) HU.out n h0 h4).2.1
    clear hcir
    obtain ⟨X0, hX0⟩ : ∃ X0, X0 = w2.alloc (.cells #[.slice none 0 0, .slice none 0 0, .slice none 0 0, .slice none 0 0] 32) := ⟨_, rfl⟩
    obtain ⟨b, hb⟩ : ∃ b, b = w2.heap.size := ⟨_, rfl⟩
    have HX : Hid (NwA (b + 1) w X0 b (.slice none 0 0) (.slice none 0 0) (.slice none 0 0) (.slice none 0 0) [] [] [] []) := by rw [hX0]; exact NwA.start w w2 b hb H2.out.2.2 H2.out.2.1 H2.out.1
    go_upto_region 6 with fail
    rw [← hX0, ← hb]
    clear hX0 hb H2
    go_wp2
    go_loopg [5] 32 (fun kx s wr => ∃ (j : Nat) (v0 v1 v2 v3 : Value), s = .int .i64 j ∧ j ≤ 32 ∧ kx = 32 - j ∧ Hid (NwA (b + 1) w wr b v0 v1 v2 v3 (b4 j) (b4 j) (List.replicate j 0) (List.replicate j pr30)))
    case atStart => exact ⟨0, _, _, _, _, rfl, Nat.zero_le _, rfl, HX⟩
    case round =>
      obtain ⟨j, v0, v1, v2, v3, rfl, hj, rfl, H⟩ := hrel
      clear HX
      by_cases hlt : j < 32
      · have hjI : (0 : Int) ≤ (j : Int) ∧ (j : Int) < 32 := by omega
        have LN : Hid ((b4 j).length = j) := b4_len j
        obtain ⟨r0, r1, r2, r3, rl⟩ := c4_block H.out.box
        obtain ⟨d, hd⟩ : ∃ d, decide ((j : Int) < 4) = d := ⟨_, rfl⟩
        have HD : Hid (decide ((j : Int) < 4) = d) := hd
        have HS1 : Hid (Src Tryz.prog 1 26 (.slice (some ⟨wr.heap.size, 0, none⟩) 1 1) 1 [.bool d] (wr.alloc (.cells #[.bool d] 4))) := src_one Tryz.underlying26 _ rfl
        have HA : Hid (NwA (b + 1) w (wr.alloc (.cells #[.bool d] 4)) b v0 v1 v2 v3 (b4 j) (b4 j) (List.replicate j 0) (List.replicate j pr30)) := H.out.below (below_one _ _)
        clear H
        go_wp2_with (at_builtin; refine wpList_own_append _ rfl _ _ 26 26 rfl (b + 1) 4 iB0 _ 1 Tryz.underlying26 iBa iBb iBc iBd rfl _ _ _ rfl HA.out.u _ 1 _ rfl HS1.out ?c3 ?c4 ?c5 ?_)
        case c3 => rw [LN.out]; unfold maxLen; omega
        case c4 => rw [LN.out]; omega
        case c5 => simp; omega
        intro v' w3 ha
        obtain ⟨a1, k1, hv1⟩ := ha.shape
        rw [LN.out] at hv1
        have hbx : w3.heap[b]? = _ := (ha.grown.block b (by simp; omega) (fun e => by have := (HA.out.u.lt _ e.symm).1; omega)).trans HA.out.box
        have f0 := fz_block hbx 0
        obtain ⟨X1, hX1⟩ : ∃ X1, X1 = w3.setCell ⟨b, 0, none⟩ v' := ⟨_, rfl⟩
        have H1 : Hid (NwA (b + 1) w X1 b v' v1 v2 v3 (b4 (j + 1)) (b4 j) (List.replicate j 0) (List.replicate j pr30)) := by
          rw [hX1, ← b4_succ, HD.out]
          exact HA.out.app0 d (by simp) (by simp [bl]) ha
        subst hv1
        clear ha HA HS1 r0 r1 r2 r3 rl
        obtain ⟨r0, r1, r2, r3, rl⟩ := c4_block hbx
        clear hbx
        go_upto_region 10 with fail
        rw [← hX1]
        clear hX1 f0 r0 r1 r2 r3 rl
        -- the second row
        obtain ⟨r0, r1, r2, r3, rl⟩ := c4_block H1.out.box
        have HS1 : Hid (Src Tryz.prog 1 26 (.slice (some ⟨X1.heap.size, 0, none⟩) 1 1) 1 [.bool d] (X1.alloc (.cells #[.bool d] 4))) := src_one Tryz.underlying26 _ rfl
        have HA : Hid (NwA (b + 1) w (X1.alloc (.cells #[.bool d] 4)) b (.slice a1 (j + 1) k1) v1 v2 v3 (b4 (j + 1)) (b4 j) (List.replicate j 0) (List.replicate j pr30)) := H1.out.below (below_one _ _)
        clear H1
        go_wp2_with (at_builtin; refine wpList_own_append _ rfl _ _ 26 26 rfl (b + 1) 4 iB0 _ 1 Tryz.underlying26 iBa iBb iBc iBd rfl _ _ _ rfl HA.out.l _ 1 _ rfl HS1.out ?c3 ?c4 ?c5 ?_)
        case c3 => rw [LN.out]; unfold maxLen; omega
        case c4 => rw [LN.out]; omega
        case c5 => simp; omega
        intro v' w4 ha
        obtain ⟨a2, k2, hv2⟩ := ha.shape
        rw [LN.out] at hv2
        have hbx : w4.heap[b]? = _ := (ha.grown.block b (by simp; omega) (fun e => by have := (HA.out.l.lt _ e.symm).1; omega)).trans HA.out.box
        have f0 := fz_block hbx 1
        obtain ⟨X2, hX2⟩ : ∃ X2, X2 = w4.setCell ⟨b, 1, none⟩ v' := ⟨_, rfl⟩
        have H2 : Hid (NwA (b + 1) w X2 b (.slice a1 (j + 1) k1) v' v2 v3 (b4 (j + 1)) (b4 (j + 1)) (List.replicate j 0) (List.replicate j pr30)) := by
          rw [hX2]
          have := HA.out.app1 d (by simp) (by simp [bl]) ha
          rw [← HD.out, b4_succ] at this
          exact this
        subst hv2
        clear ha HA HS1 r0 r1 r2 r3 rl hd
        obtain ⟨r0, r1, r2, r3, rl⟩ := c4_block hbx
        clear hbx
        go_upto_region 11 with fail
        rw [← hX2]
        clear hX2 f0 r0 r1 r2 r3 rl
        -- the third
        have LI : Hid ((List.replicate j (0 : Int)).length = j) := List.length_replicate
        have LP : Hid ((List.replicate j pr30).length = j) := List.length_replicate
        obtain ⟨Ij, hIj⟩ : ∃ Ij, Ij = List.replicate j (0 : Int) := ⟨_, rfl⟩
        obtain ⟨Pj, hPj⟩ : ∃ Pj, Pj = List.replicate j pr30 := ⟨_, rfl⟩
        rw [← hIj] at LI H2
        rw [← hPj] at LP H2
        have HIJ : Hid (Ij ++ [0] = List.replicate (j + 1) (0 : Int) ∧ Pj ++ [pr30] = List.replicate (j + 1) pr30) := ⟨by rw [hIj, List.replicate_succ'], by rw [hPj, List.replicate_succ']⟩
        clear hIj hPj
        obtain ⟨r0, r1, r2, r3, rl⟩ := c4_block H2.out.box
        have HS1 : Hid (Src Tryz.prog 1 27 (.slice (some ⟨X2.heap.size, 0, none⟩) 1 1) 1 [.int .u64 0] (X2.alloc (.cells #[.int .u64 0] 58))) := src_one Tryz.underlying27 _ rfl
        have HA : Hid (NwA (b + 1) w (X2.alloc (.cells #[.int .u64 0] 58)) b (.slice a1 (j + 1) k1) (.slice a2 (j + 1) k2) v2 v3 (b4 (j + 1)) (b4 (j + 1)) Ij Pj) := H2.out.below (below_one _ _)
        clear H2
        go_wp2_with (at_builtin; refine wpList_own_append _ rfl _ _ 27 27 rfl (b + 1) 58 iU0 _ 8 Tryz.underlying27 iUa iUb iUc iUd rfl _ _ _ rfl HA.out.i _ 1 _ rfl HS1.out ?c3 ?c4 ?c5 ?_)
        case c3 => rw [LI.out]; unfold maxLen; omega
        case c4 => rw [LI.out]; omega
        case c5 => simp; omega
        intro v' w5 ha
        obtain ⟨a3, k3, hv3⟩ := ha.shape
        rw [LI.out] at hv3
        have hbx : w5.heap[b]? = _ := (ha.grown.block b (by simp; omega) (fun e => by have := (HA.out.i.lt _ e.symm).1; omega)).trans HA.out.box
        have f0 := fz_block hbx 2
        obtain ⟨X3, hX3⟩ : ∃ X3, X3 = w5.setCell ⟨b, 2, none⟩ v' := ⟨_, rfl⟩
        have H3 : Hid (NwA (b + 1) w X3 b (.slice a1 (j + 1) k1) (.slice a2 (j + 1) k2) v' v3 (b4 (j + 1)) (b4 (j + 1)) (Ij ++ [0]) Pj) := by
          rw [hX3]
          exact HA.out.app2 0 (by simp) (by simp [ul]) ha
        subst hv3
        clear ha HA HS1 r0 r1 r2 r3 rl
        obtain ⟨r0, r1, r2, r3, rl⟩ := c4_block hbx
        clear hbx
        go_upto_region 12 with fail
        rw [← hX3]
        clear hX3 f0 r0 r1 r2 r3 rl
        -- the fourth
        obtain ⟨r0, r1, r2, r3, rl⟩ := c4_block H3.out.box
        have HS1 : Hid (Src Tryz.prog 3 30 (.slice (some ⟨X3.heap.size, 0, none⟩) 1 1) 1 pr30.cells (X3.alloc (.cells #[.int .u64 0, .int .i64 0, .slice none 0 0] 140))) := src_pr3
        have HA : Hid (NwA (b + 1) w (X3.alloc (.cells #[.int .u64 0, .int .i64 0, .slice none 0 0] 140)) b (.slice a1 (j + 1) k1) (.slice a2 (j + 1) k2) (.slice a3 (j + 1) k3) v3 (b4 (j + 1)) (b4 (j + 1)) (Ij ++ [0]) Pj) := H3.out.below (below_one _ _)
        clear H3
        go_wp2_with (at_builtin; refine wpList_own_append3 _ rfl _ _ 30 30 rfl (b + 1) 140 iP0 _ 40 Tryz.underlying30 iPa iPb iPc iPd rfl _ _ _ rfl HA.out.p _ 1 _ rfl HS1.out ?c3 ?c4 ?c5 ?_)
        case c3 => rw [LP.out]; unfold maxLen; omega
        case c4 => rw [LP.out]; omega
        case c5 => simp; omega
        intro v' w6 ha
        obtain ⟨a4, k4, hv4⟩ := ha.shape
        rw [LP.out] at hv4
        have hbx : w6.heap[b]? = _ := (ha.grown.block b (by simp; omega) (fun e => by have := (HA.out.p.lt _ e.symm).1; omega)).trans HA.out.box
        have f0 := fz_block hbx 3
        obtain ⟨X4, hX4⟩ : ∃ X4, X4 = w6.setCell ⟨b, 3, none⟩ v' := ⟨_, rfl⟩
        have H4 : Hid (NwA (b + 1) w X4 b (.slice a1 (j + 1) k1) (.slice a2 (j + 1) k2) (.slice a3 (j + 1) k3) v' (b4 (j + 1)) (b4 (j + 1)) (List.replicate (j + 1) (0 : Int)) (List.replicate (j + 1) pr30)) := by
          rw [hX4, ← HIJ.out.1, ← HIJ.out.2]
          exact HA.out.app3 pr30 (by simp) (by simp [pl3]) ha
        subst hv4
        clear ha HA HS1 r0 r1 r2 r3 rl
        obtain ⟨r0, r1, r2, r3, rl⟩ := c4_block hbx
        clear hbx
        go_wp2
        rw [← hX4]
        go_roundg (32 - (j + 1))
        case measure => omega
        case rel => exact ⟨j + 1, _, _, _, _, by go_num, by omega, rfl, H4⟩
      · obtain rfl : j = 32 := by omega
        obtain ⟨w7, hw7⟩ : ∃ w7, w7 = wr := ⟨_, rfl⟩
        rw [← hw7] at H ⊢
        clear hw7
        have G := H.out
        rw [← i4_zero l] at G
        obtain ⟨Pz, hPz⟩ : ∃ Pz, Pz = List.replicate 32 pr30 := ⟨_, rfl⟩
        have HPz : Hid (Pz.length = 32 ∧ ∀ x ∈ Pz, x.ok) := by
          rw [hPz]; exact ⟨by simp, fun x hx => by rw [(List.mem_replicate.1 hx).2]; exact ⟨by show u64 0; unfold u64; omega, by show i64 0; unfold i64; omega⟩⟩
        rw [← hPz] at G
        obtain ⟨gu, cu, e0, _, _⟩ := own_sl G.u (by rw [b4_len]; omega)
        obtain ⟨gl, cl, e1, _, _⟩ := own_sl G.l (by rw [b4_len]; omega)
        obtain ⟨gi, ci, e2, _, _⟩ := own_sl G.i (by rw [i4_len]; omega)
        obtain ⟨gp, cp, e3, _, _⟩ := own_sl G.p (by rw [HPz.out.1]; omega)
        rw [b4_len] at e0 e1
        rw [i4_len] at e2
        rw [HPz.out.1] at e3
        subst e0 e1 e2 e3
        have HG : Hid (NwA (b + 1) w w7 b (.slice (some ⟨gu, 0, none⟩) 32 cu) (.slice (some ⟨gl, 0, none⟩) 32 cl) (.slice (some ⟨gi, 0, none⟩) 32 ci) (.slice (some ⟨gp, 0, none⟩) 32 cp) (b4 32) (b4 32) (i4 l 0) Pz) := G
        clear G H hPz hj hlt
        go_wp2
        go_loopg [59] 4 (fun kx s wr => ∃ j : Nat, s = .int .i64 j ∧ j ≤ 4 ∧ kx = 4 - j ∧ Hid (NwA (b + 1) w wr b (.slice (some ⟨gu, 0, none⟩) 32 cu) (.slice (some ⟨gl, 0, none⟩) 32 cl) (.slice (some ⟨gi, 0, none⟩) 32 ci) (.slice (some ⟨gp, 0, none⟩) 32 cp) (b4 32) (b4 32) (i4 l j) Pz))
        case atStart => exact ⟨0, rfl, Nat.zero_le _, rfl, HG⟩
        case round =>
          obtain ⟨j, rfl, hj, rfl, H⟩ := hrel
          clear HG
          by_cases hlt : j < 4
          · have hjI : (0 : Int) ≤ (j : Int) ∧ (j : Int) < 4 := by omega
            have hj32 : (j : Int) < 32 := by omega
            obtain ⟨ab, ao, haa, hab, hax, hac⟩ := (HI.out.below (Nat.le_refl _) H.out.bel).one (v := Value.int .u64) (fun _ => rfl) (i := j) hlt
            subst haa
            obtain ⟨r0, r1, r2, r3, rl⟩ := c4_block H.out.box
            have hif' := own_inU (B := b + 1) (g := gi) (c := ci) (L := i4 l j) (w := wr) (by have := H.out.i; rw [i4_len] at this; exact this) (i4_ok HU.out j)
            obtain ⟨ib, io, hia, hib, _, hic⟩ := hif'.one (v := Value.int .u64) (fun _ => rfl) (i := j) (by omega)
            simp only [Option.some.injEq, Addr.mk.injEq, and_true] at hia
            obtain ⟨rfl, rfl⟩ := hia
            simp only [Nat.zero_add] at hic
            have hfz : wr.frozen? ⟨gi, j, none⟩ = false := by
              rcases H.out.i.2 with ⟨q, _⟩ | ⟨g, cap', cur, q, _, hg, _⟩
              · cases q
              · cases q; exact fz_block hg j
            obtain ⟨X1, hX1⟩ : ∃ X1, X1 = wr.setCell ⟨gi, j, none⟩ (.int .u64 (l.getD j 0)) := ⟨_, rfl⟩
            have H1 : Hid (NwA (b + 1) w X1 b (.slice (some ⟨gu, 0, none⟩) 32 cu) (.slice (some ⟨gl, 0, none⟩) 32 cl) (.slice (some ⟨gi, 0, none⟩) 32 ci) (.slice (some ⟨gp, 0, none⟩) 32 cp) (b4 32) (b4 32) (i4 l (j + 1)) Pz) := by
              rw [hX1, ← i4_set l j (by omega)]
              have hh := H.out
              have e : (32 : Nat) = (i4 l j).length := (i4_len l j).symm
              have h2 := NwA.setI (gi := gi) (ci := ci) (by rw [← e]; exact hh) j (l.getD j 0)
              rw [← e] at h2
              exact h2
            clear H hif' hax
            generalize l.getD j 0 = y at hac hX1
            generalize (i4 l j).getD j 0 = z at hic
            go_wp2
            rw [← hX1]
            go_roundg (4 - (j + 1))
            case measure => omega
            case rel => exact ⟨j + 1, by go_num, by omega, rfl, H1⟩
          · obtain rfl : j = 4 := by omega
            obtain ⟨w8, hw8⟩ : ∃ w8, w8 = wr := ⟨_, rfl⟩
            rw [← hw8] at H ⊢
            clear hw8 hj hlt
            have HT : Hid (gu < w8.heap.size ∧ gl < w8.heap.size ∧ gi < w8.heap.size ∧ gp < w8.heap.size ∧ b < w8.heap.size) := ⟨(H.out.u.lt gu rfl).2, (H.out.l.lt gl rfl).2, (H.out.i.lt gi rfl).2, (H.out.p.lt gp rfl).2, lt_of_block H.out.box⟩
            go_wp2
            go_loopg [73] 4 (fun kx s wr => ∃ (k : Nat) (P : List Pr3), s = .int .i64 k ∧ k ≤ 4 ∧ kx = 4 - k ∧ Hid (NwA (b + 1) w wr b (.slice (some ⟨gu, 0, none⟩) 32 cu) (.slice (some ⟨gl, 0, none⟩) 32 cl) (.slice (some ⟨gi, 0, none⟩) 32 ci) (.slice (some ⟨gp, 0, none⟩) 32 cp) (b4 32) (b4 32) (i4 l 4) P ∧ LsD w8.heap.size wr l P k ∧ P.length = 32 ∧ (∀ x ∈ P, x.ok) ∧ w8.heap.size ≤ wr.heap.size))
            case atStart => exact ⟨0, Pz, rfl, Nat.zero_le _, rfl, (⟨H.out, fun n hn => absurd hn (Nat.not_lt_zero _), HPz.out.1, HPz.out.2, Nat.le_refl _⟩ : _ ∧ LsD w8.heap.size w8 l Pz 0 ∧ _ ∧ _ ∧ w8.heap.size ≤ w8.heap.size)⟩
            case round =>
              obtain ⟨k, P, rfl, hk, rfl, HQ⟩ := hrel
              clear H
              by_cases hlt : k < 4
              · have hkI : (0 : Int) ≤ (k : Int) ∧ (k : Int) < 4 := by omega
                obtain ⟨wo, hwo⟩ : ∃ wo, wo = wr := ⟨_, rfl⟩
                rw [← hwo] at HQ ⊢
                clear hwo
                obtain ⟨ab, ao, haa, hab, hax, hac⟩ := (HI.out.below (Nat.le_refl _) HQ.out.1.bel).one (v := Value.int .u64) (fun _ => rfl) (i := k) hlt
                subst haa
                obtain ⟨y, hy⟩ : ∃ y, y = l.getD k 0 := ⟨_, rfl⟩
                have HY : Hid (y = l.getD k 0) := hy
                rw [← hy] at hac
                obtain ⟨Y0, hY0⟩ : ∃ Y0, Y0 = wo.alloc (.cells #[.int .u64 y, .int .i64 (-1), .slice none 0 0] 140) := ⟨_, rfl⟩
                have H4 : Hid (In4 wo Y0 y (.slice none 0 0) l k 0) := by rw [hY0]; exact In4.start wo y l k
                clear hax hy
                go_upto_region 22 with fail
                rw [← hY0]
                clear hY0 hac hab
                go_wp2
                go_loopg [11, 12] 3 (fun kx x s wr => ∃ (j : Nat) (vS : Value), x = .int .u64 (l.getD (itn l k j).toNat 0) ∧ s = .int .i64 j ∧ j ≤ 3 ∧ kx = 3 - j ∧ Hid (In4 wo wr y vS l k j))
                case atStart => exact ⟨0, _, by rw [HY.out]; simp [itn], rfl, Nat.zero_le _, rfl, H4⟩
                case round =>
                  obtain ⟨j, vS, rfl, rfl, hj, rfl, H⟩ := hrel
                  clear H4
                  by_cases hlt3 : j < 3
                  · have hjI : (0 : Int) ≤ (j : Int) ∧ (j : Int) < 3 := by omega
                    obtain ⟨x, hx⟩ : ∃ x, x = l.getD (itn l k j).toNat 0 := ⟨_, rfl⟩
                    have hxp : 0 ≤ x ∧ x ≤ 18446744073709551615 := by rw [hx]; exact plc_u6 (HU.out _)
                    have hnx : bhF l x 4 = itn l k (j + 1) := by rw [hx]; rfl
                    rw [← hx]
                    have HXP : Hid (0 ≤ x ∧ x ≤ 18446744073709551615) := hxp
                    have HBW : Hid (Below w.heap.size w wr) := HQ.out.1.bel.trans (H.out.bel.mono HQ.out.1.bel.size)
                    have hrg := itn_rng HN.out (n := (k : Int)) hkI.1 hkI.2 (j + 1)
                    obtain ⟨m, hm⟩ : ∃ m : Nat, itn l k (j + 1) = m := ⟨(itn l k (j + 1)).toNat, by omega⟩
                    have HM : Hid ((m : Int) = itn l k (j + 1) ∧ bhF l x 4 = m) := ⟨hm.symm, by rw [hnx, hm]⟩
                    have hm4 : m < 4 := by omega
                    have hmI : (0 : Int) ≤ (m : Int) ∧ (m : Int) < 4 := by omega
                    clear hx hxp hnx hrg hm
                    go_wp2_with fail
                    refine (rbehind_r (some ⟨ab, ao, none⟩) cap l x wr (HI.out.below (Nat.le_refl _) HBW.out) HXP.out).mono ?_
                    rintro e w3 ⟨rfl, hb3⟩
                    rw [HM.out.2]
                    have H3 : Hid (In4 wo w3 y vS l k j ∧ Below w.heap.size w w3) := ⟨H.out.below hb3, HBW.out.trans (hb3.mono HBW.out.size)⟩
                    clear hb3 H HBW
                    have HA : Hid (In4 wo (w3.alloc (.cells #[.int .i64 m] 3)) y vS l k j) := H3.out.1.below (below_one _ _)
                    obtain ⟨r0, r1, r2, rl⟩ := c3_block H3.out.1.box
                    have HS1 : Hid (Src Tryz.prog 1 24 (.slice (some ⟨w3.heap.size, 0, none⟩) 1 1) 1 [.int .i64 m] (w3.alloc (.cells #[.int .i64 m] 3))) := src_one Tryz.underlying24 _ rfl
                    go_wp2_with (at_builtin; refine wpList_own_append _ rfl _ _ 24 24 rfl (wo.heap.size + 1) 3 i0 _ 8 Tryz.underlying24 hif hz0 hz1 hz2 rfl _ _ _ rfl HA.out.row _ 1 _ rfl HS1.out ?c3 ?c4 ?c5 ?_)
                    case c3 => unfold maxLen; omega
                    case c4 => omega
                    case c5 => simp; omega
                    intro v' w4 ha
                    obtain ⟨a1, k1, hv1⟩ := ha.shape
                    have hbx : w4.heap[wo.heap.size]? = _ := (ha.grown.block wo.heap.size (by simp; omega) (fun e => by have := (HA.out.row.lt _ e.symm).1; omega)).trans HA.out.box
                    have f0 := fz_block hbx 2
                    have HBW : Hid (Below w.heap.size w (w4.setCell ⟨wo.heap.size, 2, none⟩ v')) := HQ.out.1.bel.trans ((HA.out.app HM.out.1 ha).bel.mono HQ.out.1.bel.size)
                    obtain ⟨X1, hX1⟩ : ∃ X1, X1 = w4.setCell ⟨wo.heap.size, 2, none⟩ v' := ⟨_, rfl⟩
                    have H1 : Hid (In4 wo X1 y v' l k (j + 1)) := by rw [hX1]; exact HA.out.app HM.out.1 ha
                    rw [← hX1] at HBW
                    subst hv1
                    clear ha HA HS1 r0 r1 r2 rl H3
                    obtain ⟨r0, r1, r2, rl⟩ := c3_block hbx
                    clear hbx
                    go_upto_region 28 with fail
                    rw [← hX1]
                    clear hX1 f0 r0 r1 r2 rl
                    obtain ⟨b1, o1, hh1, hb1, _, hc1⟩ := (HI.out.below (Nat.le_refl _) HBW.out).one (v := Value.int .u64) (fun _ => rfl) (i := m) hm4
                    simp only [Option.some.injEq, Addr.mk.injEq, and_true] at hh1
                    obtain ⟨rfl, rfl⟩ := hh1
                    have HE : Hid (l.getD m 0 = l.getD (itn l k (j + 1)).toNat 0) := by show l.getD m 0 = _; rw [← HM.out.1]; simp
                    generalize l.getD m 0 = x2 at hc1 HE
                    clear HBW
                    go_wp2
                    go_roundg (3 - (j + 1))
                    case measure => omega
                    case rel => exact ⟨j + 1, _, by rw [HE.out], by go_num, by omega, rfl, H1⟩
                  · obtain rfl : j = 3 := by omega
                    obtain ⟨w9, hw9⟩ : ∃ w9, w9 = wr := ⟨_, rfl⟩
                    rw [← hw9] at H ⊢
                    clear hw9
                    obtain ⟨g5, c5, hv5, hg5, hg5'⟩ := own_sl H.out.row (by omega)
                    subst hv5
                    have hin : InIn w9 (some ⟨g5, 0, none⟩) 3 (lst l k 3) := in_of_own H.out.row (lst_ok HN.out hkI.1 hkI.2 3) (by omega)
                    obtain ⟨b5, o5, hh5, hb5, _, hc5⟩ := hin.one (v := Value.int .i64) (fun _ => rfl) (i := 2) (by omega)
                    simp only [Option.some.injEq, Addr.mk.injEq, and_true] at hh5
                    obtain ⟨rfl, rfl⟩ := hh5
                    obtain ⟨z, hz⟩ : ∃ z, z = itn l k 3 := ⟨_, rfl⟩
                    have hc5' : w9.cell? ⟨g5, 2, none⟩ = some (.int .i64 z) := by rw [hz]; simpa [lst] using hc5
                    clear hc5
                    have hcap := own_cap H.out.row
                    obtain ⟨r0, r1, r2, rl⟩ := c3_block H.out.box
                    have f0 := fz_block H.out.box 1
                    obtain ⟨X1, hX1⟩ : ∃ X1, X1 = w9.setCell ⟨wo.heap.size, 1, none⟩ (.int .i64 z) := ⟨_, rfl⟩
                    have H1 : Hid (X1.heap[wo.heap.size]? = some (.cells #[.int .u64 y, .int .i64 z, .slice (some ⟨g5, 0, none⟩) 3 c5] 140 (0, 0)) ∧ Below wo.heap.size wo X1 ∧ InIn X1 (some ⟨g5, 0, none⟩) 3 (lst l k 3) ∧ z = itn l k 3 ∧ (3 ≤ c5 ∧ c5 ≤ 9223372036854775807) ∧ wo.heap.size < g5) := by
                      rw [hX1]
                      exact ⟨by simpa using bx_set (j := 1) H.out.box (.int .i64 z), H.out.bel.setCell (Nat.le_refl _) _, hin.setCell (fun x hx => by cases hx; show g5 ≠ wo.heap.size; omega) _, hz, hcap, by omega⟩
                    clear hin hz H hg5 hcap
                    go_upto_region 30 with fail
                    rw [← hX1]
                    clear hX1 r0 r1 r2 rl f0 hc5' hb5 hg5'
                    obtain ⟨r0, r1, r2, rl⟩ := c3_block H1.out.1
                    have HN1 := HQ.out.1.below H1.out.2.1
                    obtain ⟨t0, t1, t2, t3, tl⟩ := c4_block HN1.box
                    have hP32 := HQ.out.2.2.1
                    have hpr : X1.ownsRow (b + 1) 140 3 (.slice (some ⟨gp, 0, none⟩) 32 cp) 32 (pl3 P) := by have := HN1.p; rw [hP32] at this; exact this
                    obtain ⟨pb, po, hpp, hpl, hpc⟩ := (own_inP hpr HQ.out.2.2.2.1).2.2.resolve_left (by omega)
                    simp only [Option.some.injEq, Addr.mk.injEq, and_true] at hpp
                    obtain ⟨rfl, rfl⟩ := hpp
                    have p0 := (hpc k (by omega)).2 0 (by omega)
                    have p1 := (hpc k (by omega)).2 1 (by omega)
                    have p2 := (hpc k (by omega)).2 2 (by omega)
                    simp only [Nat.zero_add, Nat.add_zero] at p0 p1 p2
                    generalize P.getD k pr30 = pk at p0 p1 p2
                    replace p0 : X1.cell? ⟨gp, k * 3, none⟩ = some (.int .u64 pk.id) := p0
                    replace p1 : X1.cell? ⟨gp, k * 3 + 1, none⟩ = some (.int .i64 pk.pred) := p1
                    replace p2 : X1.cell? ⟨gp, k * 3 + 2, none⟩ = some (.slice pk.a pk.len pk.cap) := p2
                    have f0 := own_fz hpr (k * 3)
                    have f1 := own_fz hpr (k * 3 + 1)
                    have f2 := own_fz hpr (k * 3 + 2)
                    obtain ⟨X2, hX2⟩ : ∃ X2, X2 = ((X1.setCell ⟨gp, k * 3, none⟩ (.int .u64 y)).setCell ⟨gp, k * 3 + 1, none⟩ (.int .i64 z)).setCell ⟨gp, k * 3 + 2, none⟩ (.slice (some ⟨g5, 0, none⟩) 3 c5) := ⟨_, rfl⟩
                    have H2 : Hid (NwA (b + 1) w X2 b (.slice (some ⟨gu, 0, none⟩) 32 cu) (.slice (some ⟨gl, 0, none⟩) 32 cl) (.slice (some ⟨gi, 0, none⟩) 32 ci) (.slice (some ⟨gp, 0, none⟩) 32 cp) (b4 32) (b4 32) (i4 l 4) (P.set k ⟨y, z, some ⟨g5, 0, none⟩, 3, c5⟩) ∧ LsD w8.heap.size X2 l (P.set k ⟨y, z, some ⟨g5, 0, none⟩, 3, c5⟩) (k + 1) ∧ (P.set k ⟨y, z, some ⟨g5, 0, none⟩, 3, c5⟩).length = 32 ∧ (∀ x ∈ P.set k ⟨y, z, some ⟨g5, 0, none⟩, 3, c5⟩, x.ok) ∧ w8.heap.size ≤ X2.heap.size) := by
                      have hT := HT.out.2.2.2.1
                      have hsz : w8.heap.size ≤ X1.heap.size := Nat.le_trans HQ.out.2.2.2.2 H1.out.2.1.size
                      have hgg := H1.out.2.2.2.2.2
                      have hwz := HQ.out.2.2.2.2
                      refine ⟨?_, ?_, by rw [List.length_set]; exact hP32, fun x hx => ?_, by rw [hX2]; simp [World.setCell]; exact hsz⟩
                      · have q := NwA.set3 (gp := gp) (cp := cp) (by rw [hP32]; exact HN1) (by rw [hP32]; omega : k < P.length) ⟨y, z, some ⟨g5, 0, none⟩, 3, c5⟩
                        rw [hP32] at q
                        rw [hX2]; exact q
                      · have d1 : LsD w8.heap.size X1 l P k := HQ.out.2.1.below H1.out.2.1
                        have d2 := d1.step (by rw [hP32]; omega) H1.out.2.2.1 (by omega : w8.heap.size ≤ g5) H1.out.2.2.2.2.1
                        rw [← HY.out, ← H1.out.2.2.2.1] at d2
                        rw [hX2]
                        exact ((d2.set hT _ _).set hT _ _).set hT _ _
                      · rcases List.mem_or_eq_of_mem_set hx with q | q
                        · exact HQ.out.2.2.2.1 x q
                        · rw [q]
                          refine pr_ok (by rw [HY.out]; exact HU.out k) (by rw [H1.out.2.2.2.1]; exact itn_rng HN.out hkI.1 hkI.2 3)
                    have hk32 : (k : Int) < 32 := by omega
                    clear HQ H1 HN1 hpr hpc hP32
                    go_wp2
                    rw [← hX2]
                    go_roundg (4 - (k + 1))
                    case measure => omega
                    case rel => exact ⟨k + 1, _, by go_num, by omega, rfl, H2⟩
              · obtain rfl : k = 4 := by omega
                obtain ⟨w10, hw10⟩ : ∃ w10, w10 = wr := ⟨_, rfl⟩
                rw [← hw10] at HQ ⊢
                clear hw10
                have hv := NwA.toV HC.out HS.out.1 HS.out.2 HU.out HQ.out.2.2.1 HQ.out.2.2.2.1 HQ.out.1 HQ.out.2.1
                obtain ⟨t0, t1, t2, t3, tl⟩ := c4_block HQ.out.1.box
                obtain ⟨s0, s1, s2, s3, sl⟩ := c4_block HQ.out.1.res
                have sf := fz_block HQ.out.1.res
                have HE : Hid _ := hv.off (w' := set4 w10 w.heap.size (.slice (some ⟨gu, 0, none⟩) 32 cu) (.slice (some ⟨gl, 0, none⟩) 32 cl) (.slice (some ⟨gi, 0, none⟩) 32 ci) (.slice (some ⟨gp, 0, none⟩) 32 cp)) (by rw [set4_size]; exact Nat.le_refl _) (off_set4 HQ.out.1.res ⟨_, _, _, rfl⟩ ⟨_, _, _, rfl⟩ ⟨_, _, _, rfl⟩ ⟨_, _, _, rfl⟩ _ _ _ _)
                have HB : Hid (Below w.heap.size w (set4 w10 w.heap.size (.slice (some ⟨gu, 0, none⟩) 32 cu) (.slice (some ⟨gl, 0, none⟩) 32 cl) (.slice (some ⟨gi, 0, none⟩) 32 ci) (.slice (some ⟨gp, 0, none⟩) 32 cp))) := set4_below HQ.out.1.bel (p := w.heap.size) (by omega) _ _ _ _
                clear hv HQ
                go_wp2
                refine bodyPost_ret (v := .tuple #[.agg #[.slice (some ⟨gu, 0, none⟩) 32 cu, .slice (some ⟨gl, 0, none⟩) 32 cl, .slice (some ⟨gi, 0, none⟩) 32 ci, .slice (some ⟨gp, 0, none⟩) 32 cp], .int .i64 0]) (by simp [results, Tryz.results45, go_sem, s0, s1, s2, s3]) rfl ⟨.inr ⟨S, _, HS.out.1, HS.out.2, HS4.out, rfl, HE.out⟩, HB.out⟩
end Go.Proofs.YtmajlldfiiokoaaGreatDoor

/- wigwaglaw10.Does: both rings side by side. -/
namespace Go.Proofs.YtmajlldfiiokoaaGreatDoor
open Go.ChangeShapes Go.WideShapes Go.ChangeAt Go.RowKit Go.Deep
set_option linter.unusedVariables false

theorem map_nocell {w : World} {g : Nat} {m : List (Int × Value)} (h : MpAt w g m) {x : Nat} {v : Value} (hc : w.cell? ⟨g, x, none⟩ = some v) : False := by
  obtain ⟨_, es, c, h2, _⟩ := h
  simp [World.cell?, h2] at hc
/-- The document's ring lies where no map lies. -/
theorem RfV.kp {w w' : World} {r gp gk : Nat} {R R0 : Rg} {v : Value} (h : RfV w R v) (hr : RingAt w r gp gk R0) (k : Kp w w' gp gk) : RfV w' R v := by
  obtain ⟨mp, hp, _⟩ := hr.places
  obtain ⟨mk, hk, _⟩ := hr.known
  refine h.off k.size (fun b x u hc _ => k.block b (cell_block hc) (fun e => ?_) (fun e => ?_))
  · subst e; exact map_nocell hp hc
  · subst e; exact map_nocell hk hc
theorem RingAt.gs {w : World} {r gp gk : Nat} {R : Rg} (h : RingAt w r gp gk R) : gp < w.heap.size ∧ gk < w.heap.size := by
  obtain ⟨mp, hp, _⟩ := h.places
  obtain ⟨mk, hk, _⟩ := h.known
  exact ⟨hp.lt, hk.lt⟩
theorem RingAt.off {w w' : World} {r gp gk p : Nat} {R : Rg} (h : RingAt w r gp gk R) (hs : w.heap.size ≤ w'.heap.size) (hb : ∀ b, b ≠ p → w'.heap[b]? = w.heap[b]?) (h1 : r ≠ p) (h2 : gp ≠ p) (h3 : gk ≠ p) (hoff : ∀ b x v, w.cell? ⟨b, x, none⟩ = some v → (∀ a n c, v ≠ .slice a n c) → w'.heap[b]? = w.heap[b]?) : RingAt w' r gp gk R := by
  obtain ⟨mp, hp, hp'⟩ := h.places
  obtain ⟨mk, hk, hk'⟩ := h.known
  refine ⟨(hb r h1).trans h.box, h.ne, ⟨mp, hp.of_block (hb gp h2), hp'⟩, ⟨mk, hk.of_block (hb gk h3), fun k => ?_⟩, h.ids, fun b e => Nat.lt_of_lt_of_le (h.old b e) hs⟩
  have q := hk' k
  cases hkn : R.kn k with
  | none => rw [hkn] at q; cases hlk : look mk k with
    | none => trivial
    | some v => rw [hlk] at q; exact q.elim
  | some x => rw [hkn] at q; cases hlk : look mk k with
    | none => rw [hlk] at q; exact q.elim
    | some v =>
      rw [hlk] at q
      obtain ⟨a, len, cap, e, hin, hd⟩ := q
      exact ⟨a, len, cap, e, ⟨hin.hid, hin.hpred, hin.row.off (by omega) (fun x => ⟨_, rfl, fun _ _ _ q => by cases q⟩) hs hoff, hin.hcap, hin.hmost, hin.hnil⟩, hd⟩
/-- Places are those of addresses below 32 alone. -/
def PlR (R : Rg) : Prop := ∀ m : Int, (m < 0 ∨ 32 ≤ m) → R.pl m = none
theorem PlR.join {R : Rg} (h : PlR R) (n id via : Int) : PlR (R.join n id via) := fun m hm => by
  unfold Rg.join
  split
  · rename_i hc
    have hn : m ≠ n := fun e => by
      subst e
      unfold Rg.joinC at hc
      rw [if_pos hm] at hc
      omega
    show upd R.pl n (some id) m = none
    unfold upd
    rw [if_neg hn]; exact h m hm
  · exact h m hm
theorem PlR.fail {R : Rg} (h : PlR R) (n : Int) : PlR (R.fail n) := fun m hm => by
  unfold Rg.fail
  split
  · exact h m hm
  · exact h m hm
theorem PlR.stab {R : Rg} (h : PlR R) (n : Int) : PlR (R.stab n) := fun m hm => by rw [(stab_alike R n).2]; exact h m hm
theorem PlR.round {R : Rg} (h : PlR R) : PlR R.round := fun m hm => by rw [(round_alike R).2]; exact h m hm
/-- What Does holds: the ring's box, the call's, the answer's. -/
structure DoI (w X : World) (gp gk : Nat) (x0 x1 x2 x3 : Value) (kd n via id : Int) : Prop where
  box : X.heap[w.heap.size]? = some (.cells #[x0, x1, x2, x3] 32 (0, 0))
  act : X.heap[w.heap.size + 1]? = some (.cells #[.int .i64 kd, .int .i64 n, .int .i64 via, .int .u64 id] 61 (0, 0))
  res : X.heap[w.heap.size + 2]? = some (.cells #[.slice none 0 0, .slice none 0 0, .slice none 0 0, .slice none 0 0] 32 (0, 0))
  kp : Kp w X gp gk
  lo : gp < w.heap.size ∧ gk < w.heap.size
theorem DoI.next {w X X' : World} {gp gk : Nat} {x0 x1 x2 x3 : Value} {kd n via id : Int} (h : DoI w X gp gk x0 x1 x2 x3 kd n via id) (k : Kp X X' gp gk) : DoI w X' gp gk x0 x1 x2 x3 kd n via id := by
  have hl := h.lo
  exact ⟨(k.block _ (lt_of_block h.box) (by omega) (by omega)).trans h.box, (k.block _ (lt_of_block h.act) (by omega) (by omega)).trans h.act, (k.block _ (lt_of_block h.res) (by omega) (by omega)).trans h.res, h.kp.trans k, h.lo⟩
theorem DoI.start (w : World) {gp gk : Nat} (hl : gp < w.heap.size ∧ gk < w.heap.size) (x0 x1 x2 x3 : Value) (kd n via id : Int) : DoI w (((w.alloc (.cells #[x0, x1, x2, x3] 32)).alloc (.cells #[.int .i64 kd, .int .i64 n, .int .i64 via, .int .u64 id] 61)).alloc (.cells #[.slice none 0 0, .slice none 0 0, .slice none 0 0, .slice none 0 0] 32)) gp gk x0 x1 x2 x3 kd n via id := by
  refine ⟨?_, ?_, ?_, ?_, hl⟩
  · rw [Below.heap_alloc _ _ _ (by simp; omega), Below.heap_alloc _ _ _ (by simp)]; exact heap_alloc_new w _
  · rw [Below.heap_alloc _ _ _ (by simp)]; simpa using heap_alloc_new (w.alloc (.cells #[x0, x1, x2, x3] 32)) (.cells #[.int .i64 kd, .int .i64 n, .int .i64 via, .int .u64 id] 61)
  · simpa using heap_alloc_new ((w.alloc (.cells #[x0, x1, x2, x3] 32)).alloc (.cells #[.int .i64 kd, .int .i64 n, .int .i64 via, .int .u64 id] 61)) (.cells #[.slice none 0 0, .slice none 0 0, .slice none 0 0, .slice none 0 0] 32)
  · exact Kp.ofBelow (((below_one _ _).trans ((below_one _ _).mono (by simp))).trans ((below_one _ _).mono (by simp; omega)))
end Go.Proofs.YtmajlldfiiokoaaGreatDoor

/- wigwaglaw11.Made: a ring and the document's, behind any calls. -/
namespace Go.Proofs.YtmajlldfiiokoaaGreatDoor
open Go.ChangeShapes Go.WideShapes Go.ChangeAt Go.RowKit Go.Deep
set_option linter.unusedVariables false

def Sl4 (x0 x1 x2 x3 : Value) : Prop := (∃ a n c, x0 = .slice a n c) ∧ (∃ a n c, x1 = .slice a n c) ∧ (∃ a n c, x2 = .slice a n c) ∧ (∃ a n c, x3 = .slice a n c)
theorem RingAt.cells_ne {w : World} {r gp gk q : Nat} {R : Rg} {x0 x1 x2 x3 : Value} {t : TypeId} (h : RingAt w r gp gk R) (hq : w.heap[q]? = some (.cells #[x0, x1, x2, x3] t (0, 0))) : q ≠ gp ∧ q ≠ gk ∧ q ≠ r := by
  obtain ⟨mp, ⟨_, e1, c1, hp, _⟩, _⟩ := h.places
  obtain ⟨mk, ⟨_, e2, c2, hk, _⟩, _⟩ := h.known
  refine ⟨fun e => ?_, fun e => ?_, fun e => ?_⟩
  · rw [e, hp] at hq; cases hq
  · rw [e, hk] at hq; cases hq
  · rw [e, h.box] at hq; cases hq
/-- A ring, the document's in its box, and the answer's box. -/
structure MdI (w wr : World) (r gp gk : Nat) (R : Rg) (q : Nat) (x0 x1 x2 x3 : Value) : Prop where
  rn : Rn w wr r gp gk R
  box : wr.heap[q]? = some (.cells #[x0, x1, x2, x3] 32 (0, 0))
  res : wr.heap[w.heap.size]? = some (.cells #[.slice none 0 0, .slice none 0 0, .slice none 0 0, .slice none 0 0] 32 (0, 0))
  v : RfV wr R (.agg #[x0, x1, x2, x3])
  sl : Sl4 x0 x1 x2 x3
  lt : w.heap.size < q
theorem Rn.set4 {w X : World} {r gp gk q : Nat} {R : Rg} {x0 x1 x2 x3 : Value} (h : Rn w X r gp gk R) (hq : X.heap[q]? = some (.cells #[x0, x1, x2, x3] 32 (0, 0))) (hs : Sl4 x0 x1 x2 x3) (hl : w.heap.size ≤ q) (y0 y1 y2 y3 : Value) : Rn w (set4 X q y0 y1 y2 y3) r gp gk R := by
  have hoff := off_set4 hq hs.1 hs.2.1 hs.2.2.1 hs.2.2.2 y0 y1 y2 y3
  have hn := h.ring.cells_ne hq
  exact ⟨h.ring.off (p := q) (by rw [set4_size]; exact Nat.le_refl _) (fun b hb => set4_other hb _ _ _ _) (Ne.symm hn.2.2) (Ne.symm hn.1) (Ne.symm hn.2.1) hoff, h.inv, set4_below h.bel hl _ _ _ _, h.gp, h.gk⟩
theorem MdI.step {w wr X9 : World} {r gp gk q : Nat} {R R' : Rg} {x0 x1 x2 x3 y0 y1 y2 y3 : Value} (h : MdI w wr r gp gk R q x0 x1 x2 x3) (hr : Rn w X9 r gp gk R') (hv : RfV X9 R' (.agg #[y0, y1, y2, y3])) (k : Kp wr X9 gp gk) (hy : Sl4 y0 y1 y2 y3) :
    MdI w (set4 X9 q y0 y1 y2 y3) r gp gk R' q y0 y1 y2 y3 ∧ X9.heap[q]? = some (.cells #[x0, x1, x2, x3] 32 (0, 0)) := by
  have n1 := h.rn.ring.cells_ne h.box
  have n2 := h.rn.ring.cells_ne h.res
  have b1 : X9.heap[q]? = some (.cells #[x0, x1, x2, x3] 32 (0, 0)) := (k.block q (lt_of_block h.box) n1.1 n1.2.1).trans h.box
  have b2 := (k.block _ (lt_of_block h.res) n2.1 n2.2.1).trans h.res
  have hoff := off_set4 b1 h.sl.1 h.sl.2.1 h.sl.2.2.1 h.sl.2.2.2 y0 y1 y2 y3
  have hlt := h.lt
  exact ⟨⟨hr.set4 b1 h.sl (Nat.le_of_lt hlt) _ _ _ _, set4_box b1 _ _ _ _, (set4_other (by omega) _ _ _ _).trans b2, hv.off (by rw [set4_size]; exact Nat.le_refl _) hoff, hy, hlt⟩, b1⟩
/-- What a call on both leaves in its box. -/
def MdC (w wr X : World) (r gp gk : Nat) (R' : Rg) (g : Nat) (y0 y1 y2 y3 : Value) : Prop := X.heap[g]? = some (.cells #[y0, y1, y2, y3] 32 (0, 0)) ∧ Rn w X r gp gk R' ∧ RfV X R' (.agg #[y0, y1, y2, y3]) ∧ Kp wr X gp gk
theorem MdC.a {w wr w9 : World} {r gp gk : Nat} {R' : Rg} {y0 y1 y2 y3 : Value} (hr : Rn w w9 r gp gk R') (hv : RfV w9 R' (.agg #[y0, y1, y2, y3])) (k : Kp wr w9 gp gk) : MdC w wr (w9.alloc (.cells #[y0, y1, y2, y3] 32)) r gp gk R' w9.heap.size y0 y1 y2 y3 :=
  ⟨heap_alloc_new w9 _, hr.below (below_one _ _), hv.below (below_one _ _), k.trans (Kp.ofBelow (below_one _ _))⟩
theorem MdC.b {w wr w9 : World} {r gp gk : Nat} {R' : Rg} {y0 y1 y2 y3 : Value} (hr : Rn w w9 r gp gk R') (hv : RfV w9 R' (.agg #[y0, y1, y2, y3])) (k : Kp wr w9 gp gk) (hl : w.heap.size ≤ wr.heap.size) (hz : w9.heap[wr.heap.size]? = some (.cells #[.slice none 0 0, .slice none 0 0, .slice none 0 0, .slice none 0 0] 32 (0, 0))) : MdC w wr (set4 w9 wr.heap.size y0 y1 y2 y3) r gp gk R' wr.heap.size y0 y1 y2 y3 := by
  have e := set4_below (Below.refl wr.heap.size w9) (Nat.le_refl _) y0 y1 y2 y3
  refine ⟨set4_box hz _ _ _ _, hr.set4 hz ⟨⟨_, _, _, rfl⟩, ⟨_, _, _, rfl⟩, ⟨_, _, _, rfl⟩, ⟨_, _, _, rfl⟩⟩ hl _ _ _ _, hv.off (by rw [set4_size]; exact Nat.le_refl _) (off_set4 hz ⟨_, _, _, rfl⟩ ⟨_, _, _, rfl⟩ ⟨_, _, _, rfl⟩ ⟨_, _, _, rfl⟩ _ _ _ _), ?_⟩
  exact ⟨e.os.trans k.os, e.tape.trans k.tape, e.output.trans k.output, by rw [set4_size]; exact k.size, fun b hb h1 h2 => (set4_other (by omega) _ _ _ _).trans (k.block b hb h1 h2)⟩
theorem made_ids {w wr : World} {a : Option Addr} {n c : Nat} {l : List Int} (h : Made w wr (.slice a n c) l) (hn : n = l.length) (hok : ∀ x ∈ l, u64 x) (hm : n ≤ 9223372036854775807) : IdIn wr a n l := by
  refine ⟨hn.symm, hm, ?_⟩
  rcases h.row.2 with ⟨e, h0⟩ | ⟨g, cap, cur, e, hB, hg, hc, hmx, hs, ht⟩
  · exact .inl (by omega)
  · cases e
    have hr : wr.ownsRow w.heap.size 58 1 (.slice (some ⟨g, 0, none⟩) l.length c) l.length (l.map (Value.int .u64)) := h.row
    refine .inr ⟨g, 0, rfl, lt_of_block hg, fun i hi => ⟨hok _ ?_, fun j hj => ?_⟩⟩
    · rw [List.getD_eq_getElem?_getD, List.getElem?_eq_getElem (by omega)]; simp
    · obtain rfl : j = 0 := by omega
      have e := hr.cells (g := g) rfl i (.int .u64 (l.getD i 0)) (by have : i < l.length := hi; simp [List.getD, this])
      rw [Addr.add_lit] at e
      simpa [encU] using e

end Go.Proofs.YtmajlldfiiokoaaGreatDoor
