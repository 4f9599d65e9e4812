/- Whose a place is: the circle's owners. No program in sight. -/
import Derived.Test.YtmajlldfiiokoaaGreatDoorJoinPeSame
import Derived.Test.YtmajlldfiiokoaaGreatDoorRiseMath
import Derived.Test.YtmajlldfiiokoaaGreatDoorChAll
import Derived.Test.YtmajlldfiiokoaaGreatDoorFam
import Derived.Deep.CutBlock
import Derived.Deep.DeepCutAuto
import Derived.Test.YtmajlldfiiokoaaGreatDoorChHop
import Derived.Test.YtmajlldfiiokoaaGreatDoorJoinTrMath
import Derived.Laws.Bits64
set_option linter.unnecessarySimpa false
namespace Go.Proofs.YtmajlldfiiokoaaGreatDoor
set_option linter.unusedVariables false
end Go.Proofs.YtmajlldfiiokoaaGreatDoor

/- Ways: whom one asks next, and how near one comes. No program in sight. -/
namespace Go.Proofs.YtmajlldfiiokoaaGreatDoor
set_option linter.unusedVariables false

/-- Does a member think that a place is its own? -/
def Rg.owns (R : Rg) (n x : Int) : Bool := (R.know n).pred != -1 && (R.lives (R.know n).pred && inB x (R.idOf (R.know n).pred) (R.know n).id)
def Rg.closer (R : Rg) (frm x best q : Int) : Bool := R.lives q && (withinB (R.idOf q) (R.idOf best) frm && withinB (R.idOf q) (R.idOf best) x)
def Rg.nearst (R : Rg) (frm x : Int) : Int → List Int → Int
  | best, [] => best
  | best, q :: l => R.nearst frm x (if R.closer frm x best q then q else best) l
/-- Who is asked next. -/
def Rg.nextTo (R : Rg) (G : Int → List Int) (x n : Int) : Int :=
  if x == (R.know n).id || R.owns n x then n
  else if inB x (R.know n).id (R.idOf (R.head n)) then R.head n
  else R.nearst (R.know n).id x (R.nearst (R.know n).id x (R.head n) (R.know n).succ) (G n)
def Rg.hopTo (R : Rg) (G : Int → List Int) (x n : Int) : Nat → Int
  | 0 => n
  | k + 1 => R.nextTo G x (R.hopTo G x n k)
def Rg.way (R : Rg) (G : Int → List Int) (x n : Int) (k : Nat) : List Int := (List.range k).map (R.hopTo G x n)
section
variable {R : Rg} (h : Inv R) {G : Int → List Int} {x : Int} (hx : Plc x)
include h hx
section
variable (hd : Hds R)
include hd
end
end
end Go.Proofs.YtmajlldfiiokoaaGreatDoor

/- Fingers in memory: the ring's pointer and a map of lists, behind a pointer. -/
namespace Go.Proofs.YtmajlldfiiokoaaGreatDoor
open Go.ChangeShapes Go.WideShapes Go.ChangeAt Go.RowKit Go.Deep
set_option linter.unusedVariables false

/-- The list that a key has; none: an empty one. -/
def LsOk (w : World) (l : List Int) : Option Value → Prop
  | none => l = []
  | some v => ∃ a len cap, v = .slice a len cap ∧ InIn w a len l ∧ (a = none → len = 0) ∧ len ≤ cap ∧ cap ≤ 9223372036854775807
structure FgAt (w : World) (f r gm : Nat) (G : Int → List Int) : Prop where
  box : w.heap[f]? = some (.cells #[.pointer (some ⟨r, 0, none⟩), .map (some gm)] 107 (0, 0))
  map : ∃ m, MpAt w gm m ∧ ∀ k, LsOk w (G k) (look m k)
theorem LsOk.below {w w' : World} {l : List Int} {v : Option Value} (h : LsOk w l v) (hb : Below w.heap.size w w') : LsOk w' l v := by
  cases v with
  | none => exact h
  | some v => obtain ⟨a, len, cap, e, h1, h2⟩ := h; exact ⟨a, len, cap, e, h1.below (Nat.le_refl _) hb, h2⟩
theorem LsOk.kp {w w' : World} {l : List Int} {v : Option Value} {gp gk : Nat} (h : LsOk w l v) (hk : Kp w w' gp gk) {mp mk : List (Int × Value)} (h1 : MpAt w gp mp) (h2 : MpAt w gk mk) : LsOk w' l v := by
  cases v with
  | none => exact h
  | some v => obtain ⟨a, len, cap, e, q1, q2⟩ := h; exact ⟨a, len, cap, e, InRow.kp q1 hk h1 h2, q2⟩
theorem FgAt.lt {w : World} {f r gm : Nat} {G : Int → List Int} (h : FgAt w f r gm G) : f < w.heap.size ∧ gm < w.heap.size := by
  obtain ⟨m, hm, _⟩ := h.map
  refine ⟨?_, hm.lt⟩
  rcases Nat.lt_or_ge f w.heap.size with q | q
  · exact q
  · have := h.box; rw [Array.getElem?_eq_none q] at this; cases this
theorem FgAt.ne {w : World} {f r gm : Nat} {G : Int → List Int} (h : FgAt w f r gm G) : f ≠ gm := fun e => by
  obtain ⟨m, ⟨_, es, c, hp, _⟩, _⟩ := h.map
  have := h.box; rw [e, hp] at this; cases this
theorem FgAt.below {w w' : World} {f r gm : Nat} {G : Int → List Int} (h : FgAt w f r gm G) (hb : Below w.heap.size w w') : FgAt w' f r gm G := by
  have hl := h.lt
  obtain ⟨m, hm, hg⟩ := h.map
  exact ⟨(hb.block f hl.1).trans h.box, m, hm.of_block (hb.block gm hl.2), fun k => (hg k).below hb⟩
theorem FgAt.c0 {w : World} {f r gm : Nat} {G : Int → List Int} (h : FgAt w f r gm G) : w.cell? ⟨f, 0, none⟩ = some (.pointer (some ⟨r, 0, none⟩)) := by simp [World.cell?, h.box]
theorem FgAt.c1 {w : World} {f r gm : Nat} {G : Int → List Int} (h : FgAt w f r gm G) : w.cell? ⟨f, 1, none⟩ = some (.map (some gm)) := by simp [World.cell?, h.box]
theorem zero_ints (w : World) : (zeroValue 24).run Tryz.prog w = .ok (.slice none 0 0) w := by kernel_rfl
/-- A look-up, in whatever grew out of it. -/
theorem FgAt.ask {w : World} {f r gm : Nat} {G : Int → List Int} (h : FgAt w f r gm G) (n : Int) :
    ∃ a len cap, InIn w a len (G n) ∧ (a = none → len = 0) ∧ len ≤ cap ∧ cap ≤ 9223372036854775807 ∧ ∀ w', Below w.heap.size w w' → (Instr.lookup 105 (.map (some gm)) (.int .i64 n) false).run Tryz.prog w' = .ok (.slice a len cap) w' := by
  have hlt := h.lt
  obtain ⟨m, hm, hg⟩ := h.map
  have q := hg n
  cases hl : look m n with
  | none =>
    rw [hl] at q
    refine ⟨none, 0, 0, by rw [show G n = [] from q]; exact ⟨rfl, by omega, .inl rfl⟩, fun _ => rfl, by omega, by omega, fun w' hb => (run_look_none (hm.of_block (hb.block gm hlt.2)) Tryz.underlying105 Tryz.underlying3 (zero_ints w') hl).2⟩
  | some v =>
    rw [hl] at q
    obtain ⟨a, len, cap, rfl, h1, h2, h3, h4⟩ := q
    exact ⟨a, len, cap, h1, h2, h3, h4, fun w' hb => (run_look_some (hm.of_block (hb.block gm hlt.2)) Tryz.underlying105 Tryz.underlying3 hl).2⟩
/-- A store. -/
theorem FgAt.put {w : World} {f r gm : Nat} {G : Int → List Int} (h : FgAt w f r gm G) (n : Int) {a : Option Addr} {len cap : Nat} {l : List Int} (hl : InIn w a len l) (hn : a = none → len = 0) (hc : len ≤ cap) (hm : cap ≤ 9223372036854775807) :
    ∃ w', (Instr.mapUpdate 105 (.map (some gm)) (.int .i64 n) (.slice a len cap)).run Tryz.prog w = .ok () w' ∧ FgAt w' f r gm (upd G n l) ∧ Kp w w' gm gm := by
  have hne := h.ne
  have hlt := h.lt
  obtain ⟨m, hmm, hg⟩ := h.map
  obtain ⟨o, h1, h2⟩ := run_put (P := Tryz.prog) hmm Tryz.underlying105 Tryz.underlying3 n (.slice a len cap)
  have kp := Kp.setP w gm gm o
  refine ⟨_, h1, ⟨(kp.block f hlt.1 hne hne).trans h.box, _, h2, fun k => ?_⟩, kp⟩
  rw [look_put]
  simp only [upd]
  split
  · exact ⟨a, len, cap, rfl, InRow.kp hl kp hmm hmm, hn, hc, hm⟩
  · exact (hg k).kp kp hmm hmm
/-- The ring's maps are written beside it. -/
theorem FgAt.kp {w w' : World} {f r gm gp gk : Nat} {G : Int → List Int} {R : Rg} (h : FgAt w f r gm G) (hr : RingAt w r gp gk R) (k : Kp w w' gp gk) (n1 : gp ≠ gm) (n2 : gk ≠ gm) : FgAt w' f r gm G := by
  have hlt := h.lt
  obtain ⟨m, hm, hg⟩ := h.map
  obtain ⟨mp, hp, _⟩ := hr.places
  obtain ⟨mk, hk, _⟩ := hr.known
  have nf : f ≠ gp ∧ f ≠ gk := by
    obtain ⟨_, es, c, hp, _⟩ := hp
    obtain ⟨_, es', c', hk, _⟩ := hk
    refine ⟨fun e => ?_, fun e => ?_⟩
    · have := h.box; rw [e, hp] at this; cases this
    · have := h.box; rw [e, hk] at this; cases this
  exact ⟨(k.block f hlt.1 nf.1 nf.2).trans h.box, m, hm.of_block (k.block gm hlt.2 (Ne.symm n1) (Ne.symm n2)), fun x => (hg x).kp k hp hk⟩
/-- A ring and fingers, both ours. -/
structure Rt (w wr : World) (r gp gk f gm : Nat) (R : Rg) (G : Int → List Int) : Prop where
  rn : Rn w wr r gp gk R
  fg : FgAt wr f r gm G
  n1 : gp ≠ gm
  n2 : gk ≠ gm
  gm : w.heap.size ≤ gm
theorem Rt.below {w wr w' : World} {r gp gk f gm : Nat} {R : Rg} {G : Int → List Int} (h : Rt w wr r gp gk f gm R G) (hb : Below wr.heap.size wr w') : Rt w w' r gp gk f gm R G := ⟨h.rn.below hb, h.fg.below hb, h.n1, h.n2, h.gm⟩
theorem Rt.step {w wr w' : World} {r gp gk f gm : Nat} {R R' : Rg} {G : Int → List Int} (h : Rt w wr r gp gk f gm R G) (hr : RingAt w' r gp gk R') (hi : Inv R') (k : Kp wr w' gp gk) : Rt w w' r gp gk f gm R' G :=
  ⟨h.rn.step hr hi k, h.fg.kp h.rn.ring k h.n1 h.n2, h.n1, h.n2, h.gm⟩
end Go.Proofs.YtmajlldfiiokoaaGreatDoor

/- route.Owns, nearest, Next. -/
namespace Go.Proofs.YtmajlldfiiokoaaGreatDoor
open Go.ChangeShapes Go.WideShapes Go.ChangeAt Go.RowKit Go.Deep
set_option linter.unusedVariables false

end Go.Proofs.YtmajlldfiiokoaaGreatDoor

/- Who may go: lists with two that live; a ring that nobody left. The base of the document's example. No program in sight. -/
namespace Go.Proofs.YtmajlldfiiokoaaGreatDoor
set_option linter.unusedVariables false

/-- Nobody went. -/
def NW (R : Rg) : Prop := ∀ x, (R.pl x).isSome = true → R.lives x = true
theorem NW.join {R : Rg} (hw : NW R) (n id via : Int) : NW (R.join n id via) := by
  unfold Rg.join
  split
  · intro x hx
    rw [pl_joined] at hx
    rw [lives_joined]
    split
    · rfl
    · rename_i e; rw [if_neg e] at hx; exact hw x hx
  · exact hw
theorem NW.round {R : Rg} (h : Inv R) (hw : NW R) : NW R.round := by
  intro x hx
  rw [lives_round h]
  rw [(round_alike R).2] at hx
  exact hw x hx
theorem ringA_lives (x : Int) : ringA.lives x = true ↔ 0 ≤ x ∧ x < 4 := by
  have e : ringA.kn x = if x = 3 then some ⟨40, 2, [0, 1, 2]⟩ else if x = 2 then some ⟨30, 1, [3, 0, 1]⟩ else if x = 1 then some ⟨20, 0, [2, 3, 0]⟩ else if x = 0 then some ⟨10, 3, [1, 2, 3]⟩ else none := rfl
  unfold Rg.lives
  rw [e]
  split
  · simp; omega
  · split
    · simp; omega
    · split
      · simp; omega
      · split
        · simp; omega
        · simp; omega
theorem ringA_inv : Inv ringA := by
  have hp : ids4.Pairwise (· < ·) := by simp [ids4]
  have hm : ∀ x, x ∈ ids4 ↔ x ∈ ids4 := fun _ => Iff.rfl
  obtain ⟨c0, c1, c2, c3, hc⟩ := circ_of (l := ids4) rfl hp hm rfl
  refine hc.inv hp hm (fun k => ?_)
  match k with
  | 0 => simp [ids4, Plc]
  | 1 => simp [ids4, Plc]
  | 2 => simp [ids4, Plc]
  | 3 => simp [ids4, Plc]
  | k + 4 => simp [ids4, Plc]
end Go.Proofs.YtmajlldfiiokoaaGreatDoor

/- route.Path. -/
namespace Go.Proofs.YtmajlldfiiokoaaGreatDoor
open Go.ChangeShapes Go.WideShapes Go.ChangeAt Go.RowKit Go.Deep
set_option linter.unusedVariables false

/-- A row of ints of one's own that grows. -/
structure Gi (w wr : World) (v : Value) (n : Nat) (l : List Int) : Prop where
  row : wr.ownsRow w.heap.size 3 1 v n (l.map cellI)
  bel : Below w.heap.size w wr
theorem Gi.nil (w : World) : Gi w w (.slice none 0 0) 0 [] := ⟨World.ownsRow_nil w _ _ _, Below.refl _ _⟩
theorem Gi.below {w wr w' : World} {v : Value} {n : Nat} {l : List Int} (h : Gi w wr v n l) (hb : Below wr.heap.size wr w') : Gi w w' v n l :=
  ⟨h.row.kept (row := none) ⟨hb.os, hb.tape, hb.output, hb.size, fun b hb1 _ => hb.block b hb1⟩ (by cases HH : Value.ownBlock _ <;> simp), h.bel.trans (hb.mono h.bel.size)⟩
theorem Gi.app {w wr w' : World} {v v' : Value} {n : Nat} {l : List Int} {y : Int} (h : Gi w wr v n l) (ha : Appended w.heap.size 3 wr w' v v' (n + 1) (l.map cellI ++ [cellI y])) : Gi w w' v' (n + 1) (l ++ [y]) := by
  have hg := ha.grown
  refine ⟨by rw [List.map_append]; exact ha.row, h.bel.trans ⟨hg.os, hg.tape, hg.output, hg.size, fun b hb => hg.block b (by have := h.bel.size; omega) (fun e => ?_)⟩⟩
  have := (World.ownsRow.lt h.row b e.symm).1
  omega
theorem Gi.in {w wr : World} {a : Option Addr} {n c : Nat} {l : List Int} (h : Gi w wr (.slice a n c) n l) (hok : ∀ x ∈ l, i64 x) (hn : n ≤ 1000) : InIn wr a n l ∧ (a = none → n = 0) ∧ n ≤ c ∧ c ≤ 9223372036854775807 ∧ ∀ x, a = some x → w.heap.size ≤ x.block := by
  refine ⟨in_of_own h.row hok (by omega), fun e => ?_, (own_caps h.row).1, (own_caps h.row).2, own_new h.row⟩
  subst e
  rcases h.row.2 with ⟨_, e⟩ | ⟨g, cap, cur, hv, _⟩
  · exact e
  · cases hv
end Go.Proofs.YtmajlldfiiokoaaGreatDoor

/- Ways where all is as it should be. -/
namespace Go.Proofs.YtmajlldfiiokoaaGreatDoor
open Go.ChangeShapes Go.WideShapes Go.ChangeAt Go.RowKit Go.Deep
set_option linter.unusedVariables false

end Go.Proofs.YtmajlldfiiokoaaGreatDoor

/- There is a circle; the owner of the place behind one's own. No program in sight. -/
namespace Go.Proofs.YtmajlldfiiokoaaGreatDoor
set_option linter.unusedVariables false
end Go.Proofs.YtmajlldfiiokoaaGreatDoor

/- Trees over a ring: who is next by its fingers. -/
namespace Go.Proofs.YtmajlldfiiokoaaGreatDoor
open Go.ChangeShapes Go.WideShapes Go.ChangeAt Go.RowKit Go.Deep
set_option linter.unusedVariables false

theorem four {x : Int} (h : ringA.lives x = true) : x = 0 ∨ x = 1 ∨ x = 2 ∨ x = 3 := by
  have := (ringA_lives x).1 h
  omega
end Go.Proofs.YtmajlldfiiokoaaGreatDoor

/- tree.Tree.Nodes. -/
namespace Go.Proofs.YtmajlldfiiokoaaGreatDoor
open Go.ChangeShapes Go.WideShapes Go.ChangeAt Go.RowKit Go.Deep
open Go.ChangeMaps (setBlock)
set_option linter.unusedVariables false

end Go.Proofs.YtmajlldfiiokoaaGreatDoor

/- Trees over the base ring: what the laws ask. -/
namespace Go.Proofs.YtmajlldfiiokoaaGreatDoor
open Go.ChangeShapes Go.WideShapes Go.ChangeAt Go.RowKit Go.Deep
set_option linter.unusedVariables false

end Go.Proofs.YtmajlldfiiokoaaGreatDoor

/- Two rows of ints of one's own: one grows behind, the other in front. -/
namespace Go.Proofs.YtmajlldfiiokoaaGreatDoor
open Go.ChangeShapes Go.WideShapes Go.ChangeAt Go.RowKit Go.Deep
set_option linter.unusedVariables false

/-- Two rows side by side. -/
structure Tw (W wr : World) (v1 v2 : Value) (l1 l2 : List Int) : Prop where
  r1 : wr.ownsRow W.heap.size 3 1 v1 l1.length (l1.map cellI)
  r2 : wr.ownsRow W.heap.size 3 1 v2 l2.length (l2.map cellI)
  ne : ∀ x, v1.ownBlock = some x → v2.ownBlock ≠ some x
  bel : Below W.heap.size W wr
theorem Tw.below {W wr w' : World} {v1 v2 : Value} {l1 l2 : List Int} (h : Tw W wr v1 v2 l1 l2) (hb : Below wr.heap.size wr w') : Tw W w' v1 v2 l1 l2 :=
  ⟨row_at h.r1 (fun z hz => hb.block _ ((World.ownsRow.lt h.r1 z hz).2)), row_at h.r2 (fun z hz => hb.block _ ((World.ownsRow.lt h.r2 z hz).2)), h.ne, h.bel.trans (hb.mono h.bel.size)⟩
theorem empty_row {W wr : World} (hb : W.heap.size ≤ wr.heap.size) : (wr.alloc (.cells #[] 3)).ownsRow W.heap.size 3 1 (.slice (some ⟨wr.heap.size, 0, none⟩) 0 0) 0 ([].map cellI) :=
  ⟨rfl, .inr ⟨wr.heap.size, 0, #[], rfl, hb, heap_alloc_new wr _, Nat.le_refl _, by unfold maxLen; omega, rfl, rfl⟩⟩
theorem Tw.start (W : World) : Tw W ((W.alloc (.cells #[] 3)).alloc (.cells #[] 3)) (.slice (some ⟨W.heap.size, 0, none⟩) 0 0) (.slice (some ⟨W.heap.size + 1, 0, none⟩) 0 0) [] [] := by
  have e := empty_row (W := W) (wr := W) (Nat.le_refl _)
  have e2 := empty_row (W := W) (wr := W.alloc (.cells #[] 3)) (by simp)
  rw [show (W.alloc (.cells #[] 3)).heap.size = W.heap.size + 1 by simp] at e2
  refine ⟨row_at e (fun z hz => Below.heap_alloc _ _ _ ((World.ownsRow.lt e z hz).2)), e2, fun x h1 h2 => ?_, (below_one _ _).trans ((below_one _ _).mono (by simp))⟩
  simp [Value.ownBlock] at h1 h2
  omega
/-- One more behind the first. -/
theorem Tw.app {W wr w6 : World} {v1 v2 v' : Value} {l1 l2 : List Int} {y : Int} (h : Tw W wr v1 v2 l1 l2) (o : Obj) (ha : Appended W.heap.size 3 (wr.alloc o) w6 v1 v' (l1.length + 1) (l1.map cellI ++ [cellI y])) : Tw W w6 v' v2 (l1 ++ [y]) l2 := by
  have h0 := h.below (below_one wr o)
  have hg := ha.grown
  refine ⟨by rw [List.map_append, List.length_append]; exact ha.row, row_at h0.r2 (fun z hz => hg.block z ((World.ownsRow.lt h0.r2 z hz).2) (fun e => h.ne z e.symm hz)), fun x hx hx2 => ?_, h0.bel.grown hg h0.bel.size (fun k hk => (World.ownsRow.lt h0.r1 k hk).1)⟩
  rcases ha.new x hx with e | e
  · exact h.ne x e hx2
  · have := (World.ownsRow.lt h0.r2 x hx2).2
    omega
/-- A new second row: one, and the elder second row behind it. -/
theorem Tw.front {W wr w6 : World} {v1 v2 v' : Value} {l1 l2 : List Int} {y : Int} (h : Tw W wr v1 v2 l1 l2) (ha : Appended W.heap.size 3 (wr.alloc (.cells #[.int .i64 y] 3)) w6 (.slice (some ⟨wr.heap.size, 0, none⟩) 1 1) v' (1 + l2.length) ([cellI y] ++ l2.map cellI)) : Tw W w6 v1 v' l1 (y :: l2) := by
  have h0 := h.below (below_one wr (.cells #[.int .i64 y] 3))
  have hg := ha.grown
  have hlt : ∀ x, v1.ownBlock = some x → x < wr.heap.size := fun x hx => (World.ownsRow.lt h.r1 x hx).2
  refine ⟨row_at h0.r1 (fun z hz => hg.block z ((World.ownsRow.lt h0.r1 z hz).2) (fun e => ?_)), ?_, fun x hx hx2 => ?_, h0.bel.grown hg h0.bel.size (fun k hk => ?_)⟩
  · have := hlt z hz
    simp [Value.ownBlock] at e
    omega
  · have := ha.row
    rw [List.map_cons, List.length_cons, Nat.add_comm l2.length 1]
    exact this
  · have := hlt x hx
    rcases ha.new x hx2 with e | e
    · simp [Value.ownBlock] at e; omega
    · simp at e; omega
  · simp [Value.ownBlock] at hk
    have := h.bel.size
    omega
theorem one_row {W wr : World} (y : Int) (hb : W.heap.size ≤ wr.heap.size) : (wr.alloc (.cells #[.int .i64 y] 3)).ownsRow W.heap.size 3 1 (.slice (some ⟨wr.heap.size, 0, none⟩) 1 1) 1 [cellI y] :=
  ⟨rfl, .inr ⟨wr.heap.size, 1, #[.int .i64 y], rfl, hb, heap_alloc_new wr _, Nat.le_refl _, by unfold maxLen; omega, rfl, rfl⟩⟩
theorem Tw.shape {W wr : World} {v1 v2 : Value} {l1 l2 : List Int} (h : Tw W wr v1 v2 l1 l2) : (∃ a c, v1 = .slice a l1.length c) ∧ ∃ a c, v2 = .slice a l2.length c := by
  refine ⟨?_, ?_⟩
  · rcases h.r1.2 with ⟨hv, h0⟩ | ⟨g, cap, cur, hv, _⟩
    · exact ⟨none, 0, by rw [hv, h0]⟩
    · exact ⟨_, _, hv⟩
  · rcases h.r2.2 with ⟨hv, h0⟩ | ⟨g, cap, cur, hv, _⟩
    · exact ⟨none, 0, by rw [hv, h0]⟩
    · exact ⟨_, _, hv⟩
end Go.Proofs.YtmajlldfiiokoaaGreatDoor
