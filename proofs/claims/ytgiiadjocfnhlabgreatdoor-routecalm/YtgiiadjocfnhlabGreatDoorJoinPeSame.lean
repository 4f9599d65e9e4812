/- slices.Equal at ints; peer.Same. -/
import Derived.Test.YtgiiadjocfnhlabGreatDoorJoinPrInts
import Derived.Test.YtgiiadjocfnhlabGreatDoorChRing
import Derived.Deep.CutBlock
import Derived.Deep.DeepCutAuto
import Derived.Test.YtgiiadjocfnhlabGreatDoorOwnSrc
import Derived.Test.YtgiiadjocfnhlabGreatDoorShelf
import Derived.Deep.QuietTactic
import Derived.BigQuiet
import Derived.Deep.LoopGhost
import Derived.Deep.RegionHeld3
import Derived.Deep.AppendLies
import Derived.Test.YtgiiadjocfnhlabGreatDoorChCat
import Derived.Test.YtgiiadjocfnhlabGreatDoorRing
set_option linter.unnecessarySimpa false
namespace Go.Proofs.YtgiiadjocfnhlabGreatDoor
open Go.ChangeShapes Go.WideShapes Go.ChangeAt Go.RowKit Go.Deep
set_option linter.unusedVariables false


set_option maxHeartbeats 1000000 in
theorem equal_i (a : Option Addr) (n c : Nat) (l : List Int) (b : Option Addr) (m d : Nat) (k : List Int) (w : World) (hl : InIn w a n l) (hk : InIn w b m k) :
    Calls Tryz.prog 97 #[.slice a n c, .slice b m d] w fun e w' => e = .returned (.bool (intsB l k)) ∧ Below w.heap.size w w' := by
  have HL : Hid (InIn w a n l) := hl
  have HK : Hid (InIn w b m k) := hk
  have h1 := hl.2.1
  have h2 := hk.2.1
  clear hl hk
  by_cases q : n = m
  · subst q
    have hq : ((n : Int) != (n : Int)) = false := by simp
    go_enter Tryz.func97, Tryz.ntmps97
    go_wp2
    go_loopg [13] n (fun kx s wr => ∃ j : Nat, s = .int .i64 j ∧ j ≤ n ∧ kx = n - j ∧ Hid (Below w.heap.size w wr) ∧ Hid (∀ i, i < j → l.getD i 0 = k.getD i 0))
    case atStart => exact ⟨0, rfl, Nat.zero_le _, rfl, (Below.refl _ _ : Below w.heap.size w w), (fun i hi => absurd hi (Nat.not_lt_zero _) : ∀ i, i < 0 → l.getD i 0 = k.getD i 0)⟩
    case round =>
      obtain ⟨j, rfl, hj, rfl, HB, I⟩ := hrel
      by_cases hlt : j < n
      · obtain ⟨b1, o1, rfl, hb1, _, hc1⟩ := (HL.out.below (Nat.le_refl _) HB.out).one (v := Value.int .i64) (fun _ => rfl) (i := j) hlt
        obtain ⟨b2, o2, rfl, hb2, _, hc2⟩ := (HK.out.below (Nat.le_refl _) HB.out).one (v := Value.int .i64) (fun _ => rfl) (i := j) hlt
        by_cases hx : l.getD j 0 = k.getD j 0
        · have HX : Hid _ := hx
          have I' : Hid (∀ i, i < j + 1 → l.getD i 0 = k.getD i 0) := fun i hi => by
            by_cases e : i = j
            · rw [e]; exact hx
            · exact I.out i (by omega)
          rw [← hx] at hc2
          generalize l.getD j 0 = x at hc1 hc2
          have hne : (x != x) = false := by simp
          clear hx
          go_wp2_with (go_quiet (fail))
          go_roundg (n - (j + 1))
          case measure => omega
          case rel => exact ⟨j + 1, by go_num, by omega, rfl, below_drew HB.out _, I'⟩
        · have HX : Hid (intsB l k = false) := ints_at j hx
          generalize l.getD j 0 = x at hc1 hx
          generalize k.getD j 0 = y at hc2 hx
          have hne : (x != y) = true := by simpa using hx
          go_wp2_with (go_quiet (fail))
          go_ret
          exact ⟨ret_b HX.out.symm, below_drew HB.out _⟩
      · go_wp2
        go_ret
        exact ⟨ret_b (ints_all (by rw [HL.out.1, HK.out.1]) (fun i hi => I.out i (by have := HL.out.1; omega))).symm, HB.out⟩
  · have E : Hid (intsB l k = false) := ints_no (by rw [HL.out.1, HK.out.1]; exact q)
    have hq : ((n : Int) != (m : Int)) = true := by simp; omega
    go_enter Tryz.func97, Tryz.ntmps97
    go_wp2
    go_ret
    exact ⟨ret_b E.out.symm, Below.refl _ _⟩

/-- Do two know the same? -/
def peB (a b : Pe) : Bool := a.id == b.id && (a.pred == b.pred && intsB a.succ b.succ)
set_option maxHeartbeats 2000000 in
theorem same_any (p q : Pe) (a b : Option Addr) (n m c d : Nat) (w : World) (hl : InIn w a n p.succ) (hk : InIn w b m q.succ) :
    Calls Tryz.prog 76 #[.agg #[.int .u64 p.id, .int .i64 p.pred, .slice a n c], .agg #[.int .u64 q.id, .int .i64 q.pred, .slice b m d]] w fun e w' => e = .returned (.bool (peB p q)) ∧ Below w.heap.size w w' := by
  obtain ⟨W1, hW1⟩ : ∃ W1, W1 = (w.alloc (.cells #[.int .u64 p.id, .int .i64 p.pred, .slice a n c] 63)).alloc (.cells #[.int .u64 q.id, .int .i64 q.pred, .slice b m d] 63) := ⟨_, rfl⟩
  have b1 : Below w.heap.size w W1 := by rw [hW1]; exact (below_one _ _).trans ((below_one _ _).mono (by simp))
  have e0 : W1.heap[w.heap.size]? = some (.cells #[.int .u64 p.id, .int .i64 p.pred, .slice a n c] 63 (0, 0)) := by rw [hW1, Below.heap_alloc _ _ _ (by simp)]; exact heap_alloc_new w _
  have e1 : W1.heap[w.heap.size + 1]? = some (.cells #[.int .u64 q.id, .int .i64 q.pred, .slice b m d] 63 (0, 0)) := by
    rw [hW1]; simpa using heap_alloc_new (w.alloc (.cells #[.int .u64 p.id, .int .i64 p.pred, .slice a n c] 63)) (.cells #[.int .u64 q.id, .int .i64 q.pred, .slice b m d] 63)
  have x0 : W1.cell? ⟨w.heap.size, 0, none⟩ = some (.int .u64 p.id) := by simp [World.cell?, e0]
  have x1 : W1.cell? ⟨w.heap.size, 1, none⟩ = some (.int .i64 p.pred) := by simp [World.cell?, e0]
  have x2 : W1.cell? ⟨w.heap.size, 2, none⟩ = some (.slice a n c) := by simp [World.cell?, e0]
  have y0 : W1.cell? ⟨w.heap.size + 1, 0, none⟩ = some (.int .u64 q.id) := by simp [World.cell?, e1]
  have y1 : W1.cell? ⟨w.heap.size + 1, 1, none⟩ = some (.int .i64 q.pred) := by simp [World.cell?, e1]
  have y2 : W1.cell? ⟨w.heap.size + 1, 2, none⟩ = some (.slice b m d) := by simp [World.cell?, e1]
  have z0 := cell_block x0
  have z1 := cell_block y0
  have HB : Hid (Below w.heap.size w W1) := b1
  have HL : Hid (InIn W1 a n p.succ ∧ InIn W1 b m q.succ) := ⟨hl.below (Nat.le_refl _) b1, hk.below (Nat.le_refl _) b1⟩
  have HP : Hid (peB p q = (p.id == q.id && (p.pred == q.pred && intsB p.succ q.succ))) := rfl
  clear b1 e0 e1 hl hk
  obtain ⟨i1, p1, s1⟩ := p
  obtain ⟨i2, p2, s2⟩ := q
  simp only at x0 x1 y0 y1 HL HP hW1
  cases hi : i1 == i2
  · rw [hi] at HP
    go_enter Tryz.func76, Tryz.ntmps76
    go_upto_region 1 with fail
    rw [← hW1]
    clear hW1
    go_wp2
    go_ret
    exact ⟨ret_b (by rw [HP.out]; rfl), HB.out⟩
  · rw [hi] at HP
    cases hp : p1 == p2
    · rw [hp] at HP
      go_enter Tryz.func76, Tryz.ntmps76
      go_upto_region 1 with fail
      rw [← hW1]
      clear hW1
      go_wp2
      go_ret
      exact ⟨ret_b (by rw [HP.out]; rfl), HB.out⟩
    · rw [hp] at HP
      go_enter Tryz.func76, Tryz.ntmps76
      go_upto_region 1 with fail
      rw [← hW1]
      clear hW1
      go_wp2_with (go_at_call 97; refine (equal_i a n c s1 b m d s2 _ HL.out.1 HL.out.2).mono ?_; rintro e w' ⟨rfl, hb'⟩)
      go_ret
      exact ⟨ret_b (by rw [HP.out]; rfl), HB.out.trans (hb'.mono HB.out.size)⟩
end Go.Proofs.YtgiiadjocfnhlabGreatDoor

/- The circle of those that live, by their places; what each one should know. No program in sight. -/
namespace Go.Proofs.YtgiiadjocfnhlabGreatDoor
set_option linter.unusedVariables false

structure Cir (R : Rg) (C : List Int) : Prop where
  rise : C.Pairwise (fun a b => R.idOf a < R.idOf b)
  mem : ∀ x, x ∈ C ↔ R.lives x = true
  len : C.length = R.live.length
/-- What the one at i should know. -/
def idPe (R : Rg) (C : List Int) (i : Nat) : Pe := ⟨R.idOf (C.getD i 0), C.getD ((i + C.length - 1) % C.length) 0, (C.drop (i + 1) ++ C.take i).take 3⟩
/-- Do the first k know it? -/
def isB (R : Rg) (C : List Int) : Nat → Bool
  | 0 => true
  | k + 1 => isB R C k && peB (R.know (C.getD k 0)) (idPe R C k)
theorem isB_no {R : Rg} {C : List Int} {k : Nat} (h : peB (R.know (C.getD k 0)) (idPe R C k) = false) : ∀ n, k < n → isB R C n = false := by
  intro n
  induction n with
  | zero => intro hk; omega
  | succ n ih =>
    intro hk
    unfold isB
    by_cases e : k = n
    · subst e; rw [h]; simp
    · rw [ih (by omega)]; rfl
theorem live_four {R : Rg} (h : Inv R) : 4 ≤ R.live.length := by
  have := nodup_sub [0, 1, 2, 3] R.live (by decide) (fun x hx => by
    have hx4 : 0 ≤ x ∧ x < 4 := by simp at hx; omega
    exact h.in_live (h.base x hx4.1 hx4.2))
  simpa using this
section
variable {R : Rg} {C : List Int} (h : Inv R) (c : Cir R C)
include c
theorem Cir.lt {i j : Nat} (hij : i < j) (hj : j < C.length) : R.idOf (C.getD i 0) < R.idOf (C.getD j 0) := by
  have := List.pairwise_iff_getElem.1 c.rise i j (by omega) hj hij
  have e1 : C.getD i 0 = C[i]'(by omega) := by simp [List.getD, show i < C.length by omega]
  have e2 : C.getD j 0 = C[j] := by simp [List.getD, hj]
  rw [e1, e2]; exact this
theorem Cir.lv {i : Nat} (hi : i < C.length) : R.lives (C.getD i 0) = true := by
  have e2 : C.getD i 0 = C[i] := by simp [List.getD, hi]
  rw [e2]; exact (c.mem _).1 (List.getElem_mem _)
theorem Cir.at_ {x : Int} (hx : R.lives x = true) : ∃ j, j < C.length ∧ C.getD j 0 = x := by
  obtain ⟨j, hj, e⟩ := List.getElem_of_mem ((c.mem x).2 hx)
  exact ⟨j, hj, by simp [List.getD, hj, e]⟩
include h
theorem Cir.four : 4 ≤ C.length := by rw [c.len]; exact live_four h
theorem Cir.adj {i : Nat} (hi : i < C.length) : Adj R (C.getD i 0) (C.getD ((i + 1) % C.length) 0) := by
  have h4 := c.four h
  have hk : (i + 1) % C.length < C.length := Nat.mod_lt _ (by omega)
  have ui := h.u (C.getD i 0)
  refine ⟨c.lv hi, c.lv hk, ?_, fun y hy => ?_⟩
  · intro e
    by_cases q : i + 1 < C.length
    · rw [Nat.mod_eq_of_lt q] at e
      have := c.lt (i := i) (j := i + 1) (by omega) q
      rw [← e] at this; omega
    · have e0 : i + 1 = C.length := by omega
      rw [e0, Nat.mod_self] at e
      have := c.lt (i := 0) (j := i) (by omega) hi
      rw [← e] at this; omega
  · obtain ⟨j, hj, e⟩ := c.at_ hy
    subst e
    have uj := h.u (C.getD j 0)
    have uk := h.u (C.getD ((i + 1) % C.length) 0)
    rw [within_not uj ui uk]
    by_cases eij : j = i
    · subst eij; left; exact dist_self _
    · right
      by_cases q : i + 1 < C.length
      · rw [Nat.mod_eq_of_lt q] at uk ⊢
        have l1 := c.lt (i := i) (j := i + 1) (by omega) q
        rcases Nat.lt_or_ge j i with g | g
        · have l2 := c.lt (i := j) (j := i) g hi
          unfold Plc at *; unfold dist; omega
        · by_cases e2 : j = i + 1
          · subst e2; unfold Plc at *; unfold dist; omega
          · have l2 := c.lt (i := i + 1) (j := j) (by omega) hj
            unfold Plc at *; unfold dist; omega
      · have e0 : i + 1 = C.length := by omega
        rw [e0, Nat.mod_self] at uk ⊢
        have l1 := c.lt (i := 0) (j := i) (by omega) hi
        have l3 := c.lt (i := j) (j := i) (by omega) hi
        by_cases e2 : j = 0
        · subst e2; unfold Plc at *; unfold dist; omega
        · have l2 := c.lt (i := 0) (j := j) (by omega) hj
          unfold Plc at *; unfold dist; omega
end
theorem rot_getD (C : List Int) (i k : Nat) (hi : i < C.length) (hk : k + 1 < C.length) : (C.drop (i + 1) ++ C.take i).getD k 0 = C.getD ((i + 1 + k) % C.length) 0 := by
  simp only [List.getD, List.getElem?_append, List.length_drop]
  by_cases q : k < C.length - (i + 1)
  · rw [if_pos q, List.getElem?_drop, Nat.mod_eq_of_lt (by omega)]
  · rw [if_neg q, List.getElem?_take_of_lt (by omega)]
    have e : (i + 1 + k) % C.length = k - (C.length - (i + 1)) := by
      rw [Nat.mod_eq_sub_mod (by omega), Nat.mod_eq_of_lt (by omega)]; omega
    rw [e]
theorem take3 (l : List Int) (hl : 3 ≤ l.length) : l.take 3 = [l.getD 0 0, l.getD 1 0, l.getD 2 0] := by
  match l, hl with
  | a :: b :: c :: l, _ => rfl
theorem idPe_succ {C : List Int} {R : Rg} {i : Nat} (h4 : 4 ≤ C.length) (hi : i < C.length) : (idPe R C i).succ = [C.getD ((i + 1) % C.length) 0, C.getD ((i + 2) % C.length) 0, C.getD ((i + 3) % C.length) 0] := by
  unfold idPe
  simp only
  rw [take3 _ (by simp; omega), rot_getD C i 0 hi (by omega), rot_getD C i 1 hi (by omega), rot_getD C i 2 hi (by omega)]
/-- In the calm each one knows what it should. -/
theorem Rgt.know_eq {R : Rg} {C : List Int} (h : Rgt 3 R) (c : Cir R C) {i : Nat} (hi : i < C.length) : R.know (C.getD i 0) = idPe R C i := by
  obtain ⟨hv, hh, hl⟩ := h
  have h4 := c.four hv
  have a1 := c.adj hv hi
  have m1 : (i + 1) % C.length < C.length := Nat.mod_lt _ (by omega)
  have m2 : (i + 2) % C.length < C.length := Nat.mod_lt _ (by omega)
  have a2 := c.adj hv m1
  have e2 : ((i + 1) % C.length + 1) % C.length = (i + 2) % C.length := by rw [Nat.add_mod, Nat.mod_mod, ← Nat.add_mod]
  rw [e2] at a2
  have a3 := c.adj hv m2
  have e3 : ((i + 2) % C.length + 1) % C.length = (i + 3) % C.length := by rw [Nat.add_mod, Nat.mod_mod, ← Nat.add_mod]
  rw [e3] at a3
  have m0 : (i + C.length - 1) % C.length < C.length := Nat.mod_lt _ (by omega)
  have a0 := c.adj hv m0
  have e0 : ((i + C.length - 1) % C.length + 1) % C.length = i := by
    rw [Nat.add_mod, Nat.mod_mod, ← Nat.add_mod, show i + C.length - 1 + 1 = i + C.length by omega, Nat.add_mod_right, Nat.mod_eq_of_lt hi]
  rw [e0] at a0
  have hlc := a1.1
  have hlen := hv.len _ hlc
  have hls := hl _ hlc
  have hpr := (hh _ _ a0).2
  have hidc := hv.id _ hlc
  have hs := idPe_succ (R := R) h4 hi
  unfold Lst at hls
  have e : R.know (C.getD i 0) = ⟨(R.know (C.getD i 0)).id, (R.know (C.getD i 0)).pred, (R.know (C.getD i 0)).succ⟩ := rfl
  rw [e, hidc, hpr]
  have es : (R.know (C.getD i 0)).succ = (idPe R C i).succ := by
    rw [hs]
    match hps : (R.know (C.getD i 0)).succ, hlen with
    | [x1, x2, x3], _ =>
      rw [hps] at hls
      simp only [List.take, AdjC] at hls
      have q1 := hv.adj_uniq hls.1 a1
      rw [q1] at hls
      have q2 := hv.adj_uniq hls.2.1 a2
      rw [q2] at hls
      have q3 := hv.adj_uniq hls.2.2.1 a3
      rw [q1, q2, q3]
  rw [es]; rfl
theorem peB_refl (p : Pe) : peB p p = true := by
  have : intsB p.succ p.succ = true := ints_all rfl (fun _ _ => rfl)
  simp [peB, this]
theorem Rgt.is {R : Rg} {C : List Int} (h : Rgt 3 R) (c : Cir R C) : ∀ k, k ≤ C.length → isB R C k = true := by
  intro k
  induction k with
  | zero => intro _; rfl
  | succ k ih => intro hk; unfold isB; rw [ih (by omega), h.know_eq c (by omega), peB_refl]; rfl
end Go.Proofs.YtgiiadjocfnhlabGreatDoor

/- A ring, and beside it a list of one's own that grows. -/
namespace Go.Proofs.YtgiiadjocfnhlabGreatDoor
open Go.ChangeShapes Go.WideShapes Go.ChangeAt Go.RowKit Go.Deep
set_option linter.unusedVariables false

/-- What grows beside the ring, in a block that its lists keep clear of, or in a new one. -/
theorem RingAt.grow {w w' : World} {r gp gk : Nat} {R : Rg} {og : Option Nat} (h : RingAt w r gp gk R) (hl : ∀ k p, R.kn k = some p → p.succ.length = 3) (hs : w.heap.size ≤ w'.heap.size)
    (hb : ∀ b, b < w.heap.size → og ≠ some b → w'.heap[b]? = w.heap[b]?) (hg : ∀ g, og = some g → R.cl g ∧ r ≠ g ∧ gp ≠ g ∧ gk ≠ g) (D : Nat → Prop) (hD : ∀ b, D b → (R.cl b ∨ w.heap.size ≤ b) ∧ b < w'.heap.size) : RingAt w' r gp gk (R.withCl D) := by
  obtain ⟨mp, hp, hp'⟩ := h.places
  obtain ⟨mk, hk, hk'⟩ := h.known
  have hlt := h.lt
  have n1 : og ≠ some r := fun e => (hg r e).2.1 rfl
  have n2 : og ≠ some gp := fun e => (hg gp e).2.2.1 rfl
  have n3 : og ≠ some gk := fun e => (hg gk e).2.2.2 rfl
  refine ⟨(hb r hlt.1 n1).trans h.box, h.ne, ⟨mp, hp.of_block (hb gp hlt.2.1 n2), hp'⟩, ⟨mk, hk.of_block (hb gk hlt.2.2 n3), fun k => ?_⟩, h.ids, fun b e => (hD b e).2⟩
  have q := hk' k
  show KnOk w' D (R.kn k) (look mk k)
  cases hp : R.kn k with
  | none =>
    cases hv : look mk k with
    | none => exact trivial
    | some v => rw [hp, hv] at q; exact q.elim
  | some p =>
    cases hv : look mk k with
    | none => rw [hp, hv] at q; exact q.elim
    | some v =>
      rw [hp, hv] at q
      obtain ⟨a, len, cap, e, hpe, hd⟩ := q
      have h3 := hl k p hp
      have h4 := hpe.row.1
      rcases hpe.row.2.2 with h0 | ⟨b, o, ha, hlt, hc⟩
      · omega
      · have hbg : og ≠ some b := fun e => hd _ ha (hg b e).1
        refine ⟨a, len, cap, e, ⟨hpe.hid, hpe.hpred, ⟨hpe.row.1, hpe.row.2.1, .inr ⟨b, o, ha, Nat.lt_of_lt_of_le hlt hs, fun i hi => ⟨(hc i hi).1, fun j hj => ?_⟩⟩⟩, hpe.hcap, hpe.hmost, hpe.hnil⟩, fun x hx hcl => ?_⟩
        · rw [World.cell?_of_block (hb b hlt hbg)]
          exact (hc i hi).2 j hj
        · rw [ha] at hx
          cases hx
          rcases (hD b hcl).1 with q | q
          · exact hd _ ha q
          · omega

structure Rw (w wr : World) (B r gp gk : Nat) (gv : Value) (G : List Int) (R : Rg) : Prop where
  rn : Rn w wr r gp gk R
  row : wr.ownsRow B 3 1 gv G.length (G.map cellI)
  cl : ∀ g, gv.ownBlock = some g → R.cl g
  lr : r < B
  lp : gp < B
  lk : gk < B
  lB : B ≤ wr.heap.size
theorem own_block {w : World} {B n : Nat} {e : TypeId} {v : Value} {xs : List Value} (h : w.ownsRow B e 1 v n xs) {g : Nat} (hg : v.ownBlock = some g) : B ≤ g := by
  rcases h.2 with ⟨h0, h1⟩ | ⟨k, cap, cur, hv, hb, _⟩
  · rw [h0] at hg; simp [Value.ownBlock] at hg
  · rw [hv] at hg; simp [Value.ownBlock] at hg; omega
theorem Rw.below {w wr w' : World} {B r gp gk : Nat} {gv : Value} {G : List Int} {R : Rg} (h : Rw w wr B r gp gk gv G R) (hb : Below wr.heap.size wr w') : Rw w w' B r gp gk gv G R :=
  ⟨h.rn.below hb, h.row.kept (row := none) ⟨hb.os, hb.tape, hb.output, hb.size, fun b hb1 _ => hb.block b hb1⟩ (by cases HH : Value.ownBlock _ <;> simp), h.cl, h.lr, h.lp, h.lk, Nat.le_trans h.lB hb.size⟩
theorem own_int {w : World} {B n : Nat} {a : Option Addr} {c : Nat} {l : List Int} (h : w.ownsRow B 3 1 (.slice a n c) n (l.map cellI)) {i : Nat} (hi : i < n) : ∃ g, a = some ⟨g, 0, none⟩ ∧ B ≤ g ∧ g < w.heap.size ∧ w.cell? ⟨g, i, none⟩ = some (.int .i64 (l.getD i 0)) := by
  have hl : l.length = n := by have := h.1; simpa using this
  rcases h.2 with ⟨h0, h1⟩ | ⟨g, cap, cur, hv, hb, hg, hnc, _⟩
  · omega
  · simp at hv
    obtain ⟨rfl, rfl⟩ := hv
    have hil : i < l.length := by omega
    have e := h.cells (g := g) rfl i (cellI l[i]) (by simp [hil])
    have ea : (⟨g, 0, none⟩ : Addr).add i = ⟨g, i, none⟩ := by unfold Addr.add; split <;> simp_all
    rw [ea] at e
    refine ⟨g, rfl, hb, cell_block e, ?_⟩
    rw [e]
    simp [List.getD, hil, cellI]
theorem u64_one : u64 1 := by simp [u64]
theorem i64_zero : i64 0 := by simp [i64]
theorem own_kp {w w' : World} {B gp gk n : Nat} {e : TypeId} {v : Value} {xs : List Value} (h : w.ownsRow B e 1 v n xs) (k : Kp w w' gp gk) (h1 : gp < B) (h2 : gk < B) : w'.ownsRow B e 1 v n xs := by
  refine ⟨h.1, ?_⟩
  rcases h.2 with h0 | ⟨g, cap, cur, hv, hb, hg, r⟩
  · exact .inl h0
  · have hlt : g < w.heap.size := by
      rcases Nat.lt_or_ge g w.heap.size with q | q
      · exact q
      · rw [Array.getElem?_eq_none q] at hg; cases hg
    exact .inr ⟨g, cap, cur, hv, hb, (k.block g hlt (by omega) (by omega)).trans hg, r⟩
theorem Rw.step {w wr w' : World} {B r gp gk : Nat} {gv : Value} {G : List Int} {R R' : Rg} (h : Rw w wr B r gp gk gv G R) (hr : RingAt w' r gp gk R') (hi : Inv R') (k : Kp wr w' gp gk) (hc : R'.cl = R.cl) : Rw w w' B r gp gk gv G R' :=
  ⟨h.rn.step hr hi k, own_kp h.row k h.lp h.lk, by rw [hc]; exact h.cl, h.lr, h.lp, h.lk, Nat.le_trans h.lB k.size⟩
theorem Rw.append {w wr w' : World} {B r gp gk : Nat} {gv gv' : Value} {G : List Int} {R : Rg} {n : Int} (h : Rw w wr B r gp gk gv G R) (ha : Appended B 3 wr w' gv gv' (G.length + 1) (G.map cellI ++ [cellI n])) :
    Rw w w' B r gp gk gv' (G ++ [n]) (R.withCl (fun b => gv'.ownBlock = some b)) := by
  have hg := ha.grown
  have hsz : ∀ b, gv'.ownBlock = some b → b < w'.heap.size := fun b hb => (World.ownsRow.lt ha.row b hb).2
  have ne : ∀ g, gv.ownBlock = some g → B ≤ g := fun g e => own_block h.row e
  have hB : w.heap.size ≤ B := by have := h.rn.gp; have := h.lp; omega
  refine ⟨⟨h.rn.ring.grow (og := gv.ownBlock) h.rn.inv.lens hg.size (fun b hb hn => hg.block b hb (fun e => hn e.symm)) (fun g e => ⟨h.cl g e, ?_, ?_, ?_⟩) _ (fun b hb => ⟨?_, hsz b hb⟩), h.rn.inv.withCl _, ?_, h.rn.gp, h.rn.gk⟩, ?_, fun g e => e, h.lr, h.lp, h.lk, Nat.le_trans h.lB hg.size⟩
  · have := ne g e; have := h.lr; omega
  · have := ne g e; have := h.lp; omega
  · have := ne g e; have := h.lk; omega
  · rcases ha.new b hb with q | q
    · exact .inl (h.cl b q)
    · exact .inr q
  · exact h.rn.bel.trans ⟨hg.os, hg.tape, hg.output, hg.size, fun b hb => hg.block b (by have := h.rn.bel.size; omega) (fun e => by have := ne b e.symm; omega)⟩
  · have hr := ha.row
    simpa using hr
/-- A list of one's own, just begun. -/
theorem Rw.start {w w2 : World} {r gp gk : Nat} {R : Rg} (h : Rn w w2 r gp gk R) : Rw w (w2.alloc (.cells #[] 3)) w2.heap.size r gp gk (.slice (some ⟨w2.heap.size, 0, none⟩) 0 0) [] (R.withCl (fun b => b = w2.heap.size)) := by
  have hb := below_one w2 (.cells #[] 3)
  have hlt := h.ring.lt
  refine ⟨⟨h.ring.fresh h.inv.lens hb (Nat.le_refl _) (by simp), h.inv.withCl _, h.bel.trans (hb.mono h.bel.size), h.gp, h.gk⟩, ⟨rfl, .inr ⟨w2.heap.size, 0, #[], rfl, Nat.le_refl _, heap_alloc_new w2 _, Nat.le_refl _, by decide, rfl, rfl⟩⟩, fun g e => ?_, hlt.1, hlt.2.1, hlt.2.2, by simp⟩
  simp [Value.ownBlock] at e
  exact e.symm
end Go.Proofs.YtgiiadjocfnhlabGreatDoor

/- Of: the circle of those that live, sorted by their places (slices.SortFunc by the shelf's contract). -/
namespace Go.Proofs.YtgiiadjocfnhlabGreatDoor
open Go.ChangeShapes Go.WideShapes Go.ChangeAt Go.RowKit Go.Deep
set_option linter.unusedVariables false

set_option maxRecDepth 100000 in
set_option maxHeartbeats 2000000 in
theorem live_own (r gp gk : Nat) (R : Rg) (w : World) (h : RingAt w r gp gk R) :
    Calls Tryz.prog 33 #[.pointer (some ⟨r, 0, none⟩)] w fun e w' => ∃ a c, e = .returned (.slice a R.live.length c) ∧ w'.ownsRow w.heap.size 3 1 (.slice a R.live.length c) R.live.length (R.live.map cellI) ∧ Below w.heap.size w w' := by
  obtain ⟨i0, hi, hz0, hz1, hz2⟩ := info_of Tryz.infoInt
  have H : Hid (RingAt w r gp gk R) := h
  clear h
  go_enter Tryz.func33, Tryz.ntmps33
  go_wp2
  go_loopg [5, 3] 32 (fun kx s v wr => ∃ k : Nat, s = .int .i64 k ∧ k ≤ 32 ∧ kx = 32 - k ∧ Hid (Below w.heap.size w wr) ∧ Hid (wr.ownsRow w.heap.size 3 1 v (R.liveTo k).length ((R.liveTo k).map cellI)))
  case atStart => exact ⟨0, rfl, Nat.zero_le _, rfl, (Below.refl _ _ : Below w.heap.size w w), World.ownsRow_nil w w.heap.size 3 1⟩
  case round =>
    obtain ⟨k, rfl, hk, rfl, HB, HO⟩ := hrel
    by_cases hlt : k < 32
    · have hl := liveTo_len R k
      cases hq : R.lives k
      · have HQ : Hid _ := hq
        have E : Hid (R.liveTo (k + 1) = R.liveTo k) := by show R.liveTo (k + 1) = R.liveTo k; simp [Rg.liveTo, hq]
        clear hq
        go_wp2_with (go_at_call 38; refine (lives_r _ _ _ _ _ _ (H.out.below HB.out)).mono ?_; rintro e w' ⟨rfl, hb⟩; rw [HQ.out])
        go_roundg (32 - (k + 1))
        case measure => omega
        case rel => exact ⟨k + 1, by go_num, by omega, rfl, HB.out.trans (hb.mono HB.out.size), by rw [E.out]; exact HO.out.kept (row := none) ⟨hb.os, hb.tape, hb.output, hb.size, fun b hb1 _ => hb.block b hb1⟩ (by cases HH : Value.ownBlock _ <;> simp)⟩
      · have HQ : Hid _ := hq
        have E : Hid (R.liveTo (k + 1) = R.liveTo k ++ [(k : Int)]) := by show R.liveTo (k + 1) = _; simp [Rg.liveTo, hq]
        clear hq
        go_wp2_with fail
        refine (lives_r _ _ _ _ _ _ (H.out.below HB.out)).mono ?_
        rintro e w2 ⟨rfl, hb⟩
        rw [HQ.out]
        have HO2 : Hid ((w2.alloc (.cells #[.int .i64 k] 3)).ownsRow w.heap.size 3 1 u3 (R.liveTo k).length ((R.liveTo k).map cellI)) := (HO.out.kept (row := none) (w' := w2) ⟨hb.os, hb.tape, hb.output, hb.size, fun b hb1 _ => hb.block b hb1⟩ (by cases HH : Value.ownBlock _ <;> simp)).alloc (.cells #[.int .i64 k] 3)
        have HS : Hid (Src Tryz.prog 1 24 (.slice (some ⟨w2.heap.size, 0, none⟩) 1 1) 1 [cellI k] (w2.alloc (.cells #[.int .i64 k] 3))) := Src.ofSlice _ Tryz.underlying24 _ _ _ _ rfl (World.news_of_block (cs := #[.int .i64 k]) (t := 3) (fr := (0, 0)) (heap_alloc_new w2 _)) (by simp [cellI, Value.oneCell'])
        have B2 : Hid (Below w.heap.size w w2) := HB.out.trans (hb.mono HB.out.size)
        clear hb
        go_wp2_with (at_builtin; refine wpList_own_append _ rfl _ _ 24 24 rfl w.heap.size 3 i0 _ 8 Tryz.underlying24 hi hz0 hz1 hz2 rfl _ _ _ rfl HO2.out _ 1 [cellI k] rfl HS.out ?c3 ?c4 ?c5 ?_)
        case c3 => unfold maxLen; omega
        case c4 => omega
        case c5 => have := B2.out.size; simp; omega
        intro v' w3 ha
        have HA : Hid _ := ha
        clear ha
        go_wp2
        go_roundg (32 - (k + 1))
        case measure => omega
        case rel =>
          refine ⟨k + 1, by go_num, by omega, rfl, ?_, ?_⟩
          · have hg := HA.out.grown
            have b3 : Below w.heap.size w (w2.alloc (.cells #[.int .i64 k] 3)) := B2.out.trans ((below_one _ _).mono B2.out.size)
            exact b3.trans ⟨hg.os, hg.tape, hg.output, hg.size, fun b hb1 => hg.block b (by have := b3.size; omega) (fun e => by have := (World.ownsRow.lt HO2.out b e.symm).1; omega)⟩
          · have hr := HA.out.row
            rw [E.out]
            refine (show w3.ownsRow w.heap.size 3 1 v' (R.liveTo k ++ [(k : Int)]).length ((R.liveTo k ++ [(k : Int)]).map cellI) from ?_)
            simpa using hr
    · obtain rfl : k = 32 := by omega
      obtain ⟨a, c, hv⟩ : ∃ a c, u3 = .slice a (R.liveTo 32).length c := by
        rcases HO.out.2 with ⟨h0, h1⟩ | ⟨g, cap, cur, hv, _⟩
        · exact ⟨none, 0, by rw [h0, h1]⟩
        · exact ⟨_, _, hv⟩
      subst hv
      go_wp2
      go_ret
      have hl := liveTo_len R 32
      exact ⟨a, c, rfl, HO.out, HB.out⟩

def cfI (x y : Int) : Int := if x < y then -1 else if y < x then 1 else 0
theorem cf_lt (x y : Int) : cfI x y < 0 ↔ x < y := by
  unfold cfI
  split
  · rename_i h; exact ⟨fun _ => h, fun _ => by decide⟩
  · rename_i h
    split
    · exact ⟨fun q => absurd q (by decide), fun q => absurd q h⟩
    · exact ⟨fun q => absurd q (by decide), fun q => absurd q h⟩
theorem nan_id (x : Int) (w : World) : Calls Tryz.prog 96 #[.int .u64 x] w fun e w' => e = .returned (.bool false) ∧ w' = w := by
  have e : (x != x) = false := by simp
  go_enter Tryz.func96, Tryz.ntmps96
  go_wp2
  go_ret
  exact ⟨rfl, rfl⟩
theorem cmp_id (x y : Int) (w : World) : Calls Tryz.prog 72 #[.int .u64 x, .int .u64 y] w fun e w' => e = .returned (.int .i64 (cfI x y)) ∧ w' = w := by
  by_cases h1 : x < y
  · have E : Hid (cfI x y = -1) := (by unfold cfI; rw [if_pos h1] : cfI x y = -1)
    go_enter Tryz.func72, Tryz.ntmps72
    go_wp2_with (go_at_call 96; refine (nan_id _ _).mono ?_; rintro e w' ⟨rfl, rfl⟩)
    go_ret
    exact ⟨ret_i E.out.symm, rfl⟩
  · by_cases h2 : y < x
    · have E : Hid (cfI x y = 1) := (by unfold cfI; rw [if_neg h1, if_pos h2] : cfI x y = 1)
      go_enter Tryz.func72, Tryz.ntmps72
      go_wp2_with (go_at_call 96; refine (nan_id _ _).mono ?_; rintro e w' ⟨rfl, rfl⟩)
      go_ret
      exact ⟨ret_i E.out.symm, rfl⟩
    · have E : Hid (cfI x y = 0) := (by unfold cfI; rw [if_neg h1, if_neg h2] : cfI x y = 0)
      go_enter Tryz.func72, Tryz.ntmps72
      go_wp2_with (go_at_call 96; refine (nan_id _ _).mono ?_; rintro e w' ⟨rfl, rfl⟩)
      go_ret
      exact ⟨ret_i E.out.symm, rfl⟩
/-- The comparison: by places. -/
theorem of1_r (r gp gk bx : Nat) (R : Rg) (x y : Int) (w : World) (h : RingAt w r gp gk R) (hb : w.cell? ⟨bx, 0, none⟩ = some (.pointer (some ⟨r, 0, none⟩))) :
    Calls Tryz.prog 71 (#[.int .i64 x, .int .i64 y] ++ #[.pointer (some ⟨bx, 0, none⟩)]) w fun e w' => e = .returned (.int .i64 (cfI (R.idOf x) (R.idOf y))) ∧ ∃ q, w' = w.drewN q := by
  have H : Hid (RingAt w r gp gk R) := h
  have z := cell_block hb
  clear h
  show Calls Tryz.prog 71 #[.int .i64 x, .int .i64 y, .pointer (some ⟨bx, 0, none⟩)] w _
  go_enter Tryz.func71, Tryz.ntmps71
  go_wp2_with (go_quiet (first
    | (go_at_call 40; exact Calls.quiet_of_same (id_r _ _ _ _ _ _ (H.out.below ⟨rfl, rfl, rfl, Nat.le_refl _, fun _ _ => rfl⟩)))
    | (go_at_call 72; exact Calls.quiet_of_same (cmp_id _ _ _))))
  go_ret
  exact ⟨rfl, _, rfl⟩

theorem sw_size {α : Type} [Inhabited α] (enc : α → Value) (w : World) (blk off n : Nat) (dk : Array α) (os : Array Obj) : w.heap.size ≤ (Go.Proofs.sortWorld enc w blk off n dk os).heap.size := by
  simp [Go.Proofs.sortWorld, Go.Sort.grow, Go.Sort.putRow, Go.Sort.mapBlock, Go.Sort.ahead]
theorem sw_block {α : Type} [Inhabited α] (enc : α → Value) (w : World) (blk off n : Nat) (dk : Array α) (os : Array Obj) {b : Nat} (hb : b < w.heap.size) (hne : b ≠ blk) : (Go.Proofs.sortWorld enc w blk off n dk os).heap[b]? = w.heap[b]? := by
  simp [Go.Proofs.sortWorld, Go.Sort.grow, Go.Sort.putRow, Go.Sort.mapBlock, Go.Sort.ahead, Array.getElem?_append, hb]
  rw [Array.getElem_modify, if_neg (Ne.symm hne)]

theorem enter_of1 (args : Array Value) (w : World) : (callFunc 71 args).run Tryz.prog w = .ok (.enter 71 args) w := by kernel_rfl
theorem swo_id (f : Int → Int) : Go.Sort.SWO (Go.Proofs.ltOf fun x y => cfI (f x) (f y)) := by
  refine ⟨fun x => ?_, fun x y z h1 h2 => ?_, fun x y z h1 h2 => ?_⟩
  · simp only [Go.Proofs.ltOf, decide_eq_false_iff_not, cf_lt]; omega
  · simp only [Go.Proofs.ltOf, decide_eq_true_eq, cf_lt] at *; omega
  · simp only [Go.Proofs.ltOf, decide_eq_false_iff_not, cf_lt] at *; omega
theorem getBang (d : Array Int) (j : Nat) (hj : j < d.size) : d[j]! = d.toList.getD j 0 := by
  have h : d.toList.getD j 0 = d.toList[j]'(by simpa using hj) := by simp [List.getD, hj]
  rw [h, getElem!_pos d j hj]; rfl
theorem sort_live (B r gp gk blk cap bx : Nat) (R : Rg) (w : World) (h : RingAt w r gp gk R) (hi : Inv R) (hcl : R.cl blk) (h1 : r ≠ blk) (h2 : gp ≠ blk) (h3 : gk ≠ blk)
    (hbx : w.cell? ⟨bx, 0, none⟩ = some (.pointer (some ⟨r, 0, none⟩))) (hbn : bx ≠ blk) (hrow : w.ownsRow B 3 1 (.slice (some ⟨blk, 0, none⟩) R.live.length cap) R.live.length (R.live.map cellI)) :
    Calls Tryz.prog 70 #[.slice (some ⟨blk, 0, none⟩) R.live.length cap, .func (.func 71) #[] #[.pointer (some ⟨bx, 0, none⟩)]] w fun e w' =>
      e = .returned (.tuple #[]) ∧ ∃ C, Cir R C ∧ InIn w' (some ⟨blk, 0, none⟩) R.live.length C ∧ w.heap.size ≤ w'.heap.size ∧ (∀ b, b < w.heap.size → b ≠ blk → w'.heap[b]? = w.heap[b]?) ∧ w'.os = w.os ∧ w'.tape = w.tape ∧ w'.output = w.output := by
  have hll : R.live.length ≤ 32 := liveTo_len R 32
  have h4 := live_four hi
  have hblk : blk < w.heap.size := by
    obtain ⟨g, e, _, hg, _⟩ := own_int hrow (i := 0) (by omega)
    cases e; exact hg
  have hold : Go.Sort.Holds (Value.int .i64) w blk 0 R.live.toArray := by
    intro j hj
    have hj' : j < R.live.length := by simpa using hj
    obtain ⟨g, e, _, _, hc⟩ := own_int hrow (i := j) hj'
    cases e
    refine ⟨?_, ?_⟩
    · rw [Nat.zero_add, hc, getBang _ _ hj]
    · rcases hrow.2 with ⟨h0, _⟩ | ⟨g, cap', cur, hv, _, hg, _⟩
      · cases h0
      · simp at hv
        rw [← hv.1] at hg
        simp [World.frozen?, hg]
  have hc : Go.Proofs.CmpReads Tryz.prog 71 #[.pointer (some ⟨bx, 0, none⟩)] (Value.int .i64) (fun x y => cfI (R.idOf x) (R.idOf y)) blk 0 R.live.toArray.size w := by
    intro m os dk hs x y
    have hb : bx < w.heap.size := cell_block hbx
    refine of1_r r gp gk bx (R.withCl R.cl) x y _ (h.grow (og := some blk) hi.lens (sw_size _ _ _ _ _ _ _) (fun b hb hn => sw_block _ _ _ _ _ _ _ hb (fun e => hn (by rw [e]))) (fun g e => by cases e; exact ⟨hcl, h1, h2, h3⟩) R.cl (fun b hb => ⟨.inl hb, Nat.lt_of_lt_of_le (h.old b hb) (sw_size _ _ _ _ _ _ _)⟩)) ?_
    rw [← hbx]
    exact World.cell?_of_block (sw_block _ _ _ _ _ _ _ hb hbn)
  refine (Go.Proofs.Tryz.slices_SortFunc (Value.int .i64) (fun _ => rfl) (fun x y => cfI (R.idOf x) (R.idOf y)) (swo_id R.idOf) 71 #[.pointer (some ⟨bx, 0, none⟩)] blk 0 cap R.live.toArray w enter_of1 hc.lays hold hblk (by simp; omega)).mono ?_
  rintro e w' ⟨he, d', n, os, hp, hs, rfl⟩
  have hsz : d'.size = R.live.length := by have := hp.1; simpa using this
  have hpm : d'.toList.Perm R.live := by
    have := hp.2.2
    have e1 : (d'.extract 0 R.live.toArray.size) = d' := by rw [← hp.1]; simp
    have e2 : (R.live.toArray.extract 0 R.live.toArray.size) = R.live.toArray := by simp
    rw [e1, e2] at this
    simpa using this
  have hnd : d'.toList.Nodup := hpm.nodup_iff.2 (live_nodup R 32)
  have hlv : ∀ x, x ∈ d'.toList ↔ R.lives x = true := fun x => by
    rw [hpm.mem_iff]
    exact ⟨fun q => ((mem_live R x).1 q).2.2, fun q => hi.in_live q⟩
  refine ⟨he, d'.toList, ⟨?_, hlv, by simpa using hsz⟩, ⟨by simpa using hsz, by omega, .inr ⟨blk, 0, rfl, Nat.lt_of_lt_of_le hblk (sw_size _ _ _ _ _ _ _), fun j hj => ?_⟩⟩, sw_size _ _ _ _ _ _ _, fun b hb hn => sw_block _ _ _ _ _ _ _ hb hn, rfl, rfl, rfl⟩
  · rw [List.pairwise_iff_getElem]
    intro i j hi' hj' hij
    have hi2 : i < d'.size := by simpa using hi'
    have hj2 : j < d'.size := by simpa using hj'
    have q := hs i j (Nat.zero_le _) hij (by simp; omega)
    have ei : d'[i]! = d'.toList[i] := by rw [getElem!_pos d' i hi2]; rfl
    have ej : d'[j]! = d'.toList[j] := by rw [getElem!_pos d' j hj2]; rfl
    simp only [Go.Proofs.ltOf, decide_eq_false_iff_not, cf_lt] at q
    rw [ei, ej] at q
    have hne : R.idOf d'.toList[i] ≠ R.idOf d'.toList[j] := fun e => by
      have := hi.inj _ _ ((hlv _).1 (List.getElem_mem _)) ((hlv _).1 (List.getElem_mem _)) e
      exact List.pairwise_iff_getElem.1 hnd i j hi' hj' hij this
    omega
  · have hj2 : j < d'.size := by omega
    have hx : d'.toList.getD j 0 ∈ d'.toList := by
      have e0 : d'.toList.getD j 0 = d'.toList[j]'(by simpa using hj2) := by simp [List.getD, hj2]
      rw [e0]; exact List.getElem_mem _
    have hr := hi.rng _ ((hlv _).1 hx)
    refine ⟨by unfold i64; omega, fun k hk => ?_⟩
    obtain rfl : k = 0 := by omega
    have hq := (Go.Proofs.holds_sortWorld (Value.int .i64) w blk 0 n R.live.toArray d' os hblk hold hp.1 j hj2).1
    rw [getBang d' j hj2] at hq
    simpa [encI] using hq
end Go.Proofs.YtgiiadjocfnhlabGreatDoor

/- Of, whole. -/
namespace Go.Proofs.YtgiiadjocfnhlabGreatDoor
open Go.ChangeShapes Go.WideShapes Go.ChangeAt Go.RowKit Go.Deep
set_option linter.unusedVariables false

def cellP (n : Int) : Value := .int .u64 n
theorem live_withCl (R : Rg) (D : Nat → Prop) (k : Nat) : (R.withCl D).liveTo k = R.liveTo k := by
  induction k with
  | zero => rfl
  | succ k ih => unfold Rg.liveTo; rw [ih]; rfl
theorem blk_lt {w : World} {p : Nat} {o : Obj} (h : w.heap[p]? = some o) : p < w.heap.size := by
  rcases Nat.lt_or_ge p w.heap.size with q | q
  · exact q
  · rw [Array.getElem?_eq_none q] at h; cases h
theorem pair_set1 {w : World} {p : Nat} {a b : Value} {t : TypeId} (h : w.heap[p]? = some (.cells #[a, b] t (0, 0))) (u : Value) : (w.setCell ⟨p, 1, none⟩ u).heap[p]? = some (.cells #[a, u] t (0, 0)) := by
  have hlt := blk_lt h
  have h' : w.heap[p] = .cells #[a, b] t (0, 0) := by simpa [Array.getElem?_eq_getElem hlt] using h
  show (w.heap.modify p _)[p]? = _
  rw [Array.getElem?_eq_getElem (by simpa using hlt), Array.getElem_modify_self, h']
  rfl
theorem row_setCell {w : World} {B n : Nat} {e : TypeId} {v : Value} {xs : List Value} (h : w.ownsRow B e 1 v n xs) {p o : Nat} (hp : v.ownBlock ≠ some p) (u : Value) : (w.setCell ⟨p, o, none⟩ u).ownsRow B e 1 v n xs := by
  refine ⟨h.1, ?_⟩
  rcases h.2 with h0 | ⟨g, cap, cur, hv, hb, hg, q⟩
  · exact .inl h0
  · refine .inr ⟨g, cap, cur, hv, hb, ?_, q⟩
    rw [Below.heap_setCell _ _ _ _ (by show g ≠ p; intro e; apply hp; rw [hv, e]; rfl)]
    exact hg
theorem InRow.setCell {α : Type} {enc : α → List Value} {ok : α → Prop} {d : α} {k : Nat} {w : World} {a : Option Addr} {n : Nat} {l : List α} (h : InRow k enc ok d w a n l) {p o : Nat} (hp : ∀ x, a = some x → x.block ≠ p) (u : Value) : InRow k enc ok d (w.setCell ⟨p, o, none⟩ u) a n l := by
  refine ⟨h.1, h.2.1, ?_⟩
  rcases h.2.2 with h0 | ⟨b, q, ha, hlt, hc⟩
  · exact .inl h0
  · refine .inr ⟨b, q, ha, by simpa [World.setCell] using hlt, fun i hi => ⟨(hc i hi).1, fun j hj => ?_⟩⟩
    rw [World.cell?_of_block (Below.heap_setCell _ _ _ _ (hp _ ha))]
    exact (hc i hi).2 j hj
theorem InRow.kept {α : Type} {enc : α → List Value} {ok : α → Prop} {d : α} {k : Nat} {w w' : World} {a : Option Addr} {n : Nat} {l : List α} (h : InRow k enc ok d w a n l) (hs : w.heap.size ≤ w'.heap.size) (hb : ∀ x, a = some x → x.block < w.heap.size → w'.heap[x.block]? = w.heap[x.block]?) : InRow k enc ok d w' a n l := by
  refine ⟨h.1, h.2.1, ?_⟩
  rcases h.2.2 with h0 | ⟨b, q, ha, hlt, hc⟩
  · exact .inl h0
  · refine .inr ⟨b, q, ha, Nat.lt_of_lt_of_le hlt hs, fun i hi => ⟨(hc i hi).1, fun j hj => ?_⟩⟩
    rw [World.cell?_of_block (show w'.heap[b]? = w.heap[b]? from hb _ ha hlt)]
    exact (hc i hi).2 j hj
theorem own_ids {w : World} {B n : Nat} {a : Option Addr} {c : Nat} {l : List Int} (h : w.ownsRow B 26 1 (.slice a n c) n (l.map cellP)) (hl : ∀ x ∈ l, u64 x) (hn : n ≤ 9223372036854775807) : IdIn w a n l := by
  have hlen : l.length = n := by have := h.1; simpa using this
  refine ⟨hlen, hn, ?_⟩
  rcases h.2 with ⟨h0, h1⟩ | ⟨g, cap, cur, hv, hb, hg, hnc, _⟩
  · exact .inl h1
  · simp at hv
    obtain ⟨rfl, rfl⟩ := hv
    refine .inr ⟨g, 0, rfl, blk_lt hg, fun i hi => ?_⟩
    have hil : i < l.length := by omega
    have e0 : l.getD i 0 = l[i] := by simp [List.getD, hil]
    refine ⟨by rw [e0]; exact hl _ (List.getElem_mem _), fun j hj => ?_⟩
    obtain rfl : j = 0 := by omega
    have e := h.cells (g := g) rfl i (cellP l[i]) (by simp [hil])
    have ea : (⟨g, 0, none⟩ : Addr).add i = ⟨g, i, none⟩ := by unfold Addr.add; split <;> simp_all
    rw [ea] at e
    rw [e0]
    simpa [cellP, encU] using e
/-- The places so far. -/
structure Pz (w0 w4 wr : World) (r bx cb blk n c : Nat) (C : List Int) (R : Rg) (pv : Value) (k : Nat) : Prop where
  bel : Below w0.heap.size w0 wr
  box : wr.cell? ⟨bx, 0, none⟩ = some (.pointer (some ⟨r, 0, none⟩))
  cir : wr.heap[cb]? = some (.cells #[.slice (some ⟨blk, 0, none⟩) n c, pv] 75 (0, 0))
  row : wr.ownsRow w4.heap.size 26 1 pv k (((C.map R.idOf).take k).map cellP)
  mem : InIn wr (some ⟨blk, 0, none⟩) n C
  siz : w4.heap.size ≤ wr.heap.size
  res : wr.heap[w0.heap.size + 1]? = some (.cells #[.slice none 0 0, .slice none 0 0] 75 (0, 0))

set_option maxRecDepth 100000 in
set_option maxHeartbeats 4000000 in
theorem of_r (r gp gk : Nat) (R : Rg) (w : World) (h : RingAt w r gp gk R) (hi : Inv R) :
    Calls Tryz.prog 34 #[.pointer (some ⟨r, 0, none⟩)] w fun e w' => ∃ C g b c d, e = .returned (.agg #[.slice (some ⟨g, 0, none⟩) R.live.length c, .slice b R.live.length d]) ∧ Cir R C ∧ InIn w' (some ⟨g, 0, none⟩) R.live.length C ∧ R.live.length ≤ c ∧ c ≤ 9223372036854775807 ∧ IdIn w' b R.live.length (C.map R.idOf) ∧ (R.live.length ≤ d ∧ d ≤ 9223372036854775807) ∧ Below w.heap.size w w' := by
  obtain ⟨i0, hif, hz0, hz1, hz2⟩ := info_of Tryz.infoId
  have H : Hid (RingAt w r gp gk R ∧ Inv R) := ⟨h, hi⟩
  have hll : R.live.length ≤ 32 := liveTo_len R 32
  have h4 := live_four hi
  clear h hi
  obtain ⟨W1, hW1⟩ : ∃ W1, W1 = (w.alloc (.cells #[.pointer (some ⟨r, 0, none⟩)] 27)).alloc (.cells #[.slice none 0 0, .slice none 0 0] 75) := ⟨_, rfl⟩
  have b1 : Hid (Below w.heap.size w W1) := by rw [hW1]; exact (below_one _ _).trans ((below_one _ _).mono (by simp))
  have x0 : W1.cell? ⟨w.heap.size, 0, none⟩ = some (.pointer (some ⟨r, 0, none⟩)) := by
    rw [hW1, World.cell?_alloc_lt _ _ ⟨w.heap.size, 0, none⟩ (by simp)]; simp
  have z1 : W1.heap.size = w.heap.size + 2 := by rw [hW1]; simp
  have hres : W1.heap[w.heap.size + 1]? = some (.cells #[.slice none 0 0, .slice none 0 0] 75 (0, 0)) := by
    rw [hW1]; simpa using heap_alloc_new (w.alloc (.cells #[.pointer (some ⟨r, 0, none⟩)] 27)) (.cells #[.slice none 0 0, .slice none 0 0] 75)
  have xz : w.heap.size < W1.heap.size := by omega
  go_enter Tryz.func34, Tryz.ntmps34
  go_upto_region 1 with fail
  rw [← hW1]
  clear hW1
  go_wp2_with fail
  refine (live_own r gp gk R _ (H.out.1.below b1.out)).mono ?_
  rintro e w2 ⟨a, c, rfl, hrow, hb2⟩
  obtain ⟨blk, hblk, hB, hlt, _⟩ := own_int hrow (i := 0) (by omega)
  subst hblk
  have hcap := own_caps hrow
  obtain ⟨W3, hW3⟩ : ∃ W3, W3 = w2.alloc (.cells #[.slice (some ⟨blk, 0, none⟩) R.live.length c, .slice none 0 0] 75) := ⟨_, rfl⟩
  have b3 : Below w2.heap.size w2 W3 := by rw [hW3]; exact below_one _ _
  have b13 : Below W1.heap.size W1 W3 := hb2.trans (b3.mono hb2.size)
  have s3 : W3.heap.size = w2.heap.size + 1 := by rw [hW3]; simp
  have hs2 := hb2.size
  have q0 := cell_grown x0 b13
  have q3 : W3.heap[w2.heap.size]? = some (.cells #[.slice (some ⟨blk, 0, none⟩) R.live.length c, .slice none 0 0] 75 (0, 0)) := by rw [hW3]; exact heap_alloc_new w2 _
  have u0 : W3.cell? ⟨w2.heap.size, 0, none⟩ = some (.slice (some ⟨blk, 0, none⟩) R.live.length c) := by simp [World.cell?, q3]
  have uz := cell_block u0
  have HR3 : Hid (RingAt W3 r gp gk (R.withCl (fun b => b = blk))) := (H.out.1.below b1.out).fresh H.out.2.lens b13 (by omega) (by omega)
  have hrl := H.out.1.lt
  have SRT : Hid _ := sort_live W1.heap.size r gp gk blk c w.heap.size (R.withCl (fun b => b = blk)) W3 HR3.out (H.out.2.withCl _) rfl (by omega) (by omega) (by omega) q0 (by omega) (by
    have e : (R.withCl (fun b => b = blk)).live = R.live := live_withCl R _ 32
    rw [e]
    exact hrow.kept (row := none) ⟨b3.os, b3.tape, b3.output, b3.size, fun b hb1 _ => b3.block b hb1⟩ (by cases HH : Value.ownBlock _ <;> simp))
  rw [show (R.withCl (fun b => b = blk)).live = R.live from live_withCl R _ 32] at SRT
  have HC3 : Hid (R.live.length ≤ c ∧ c ≤ 9223372036854775807) := hcap
  have HB3 : Hid (Below w.heap.size w W3 ∧ W3.heap[w2.heap.size]? = some (.cells #[.slice (some ⟨blk, 0, none⟩) R.live.length c, .slice none 0 0] 75 (0, 0)) ∧ W3.cell? ⟨w.heap.size, 0, none⟩ = some (.pointer (some ⟨r, 0, none⟩)) ∧ w.heap.size + 2 ≤ blk ∧ blk < w2.heap.size ∧ W3.heap[w.heap.size + 1]? = some (.cells #[.slice none 0 0, .slice none 0 0] 75 (0, 0))) := ⟨b1.out.trans (b13.mono b1.out.size), q3, q0, by omega, hlt, (b13.block _ (by omega)).trans hres⟩
  clear hrow hb2 hB hcap b3 b13 hrl hres
  go_upto_region 2 with fail
  rw [← hW3]
  clear hW3 x0 xz
  go_wp2_with fail
  refine Calls.mono SRT.out ?_
  rintro e w4 ⟨rfl, C, hC, hm4, hs4, hbl4, ho4, ht4, hp4⟩
  have hs4' := hs4
  have HP : Hid (Pz w w4 w4 r w.heap.size w2.heap.size blk R.live.length c C R (.slice none 0 0) 0) := by
    have hB := HB3.out
    refine ⟨⟨ho4.trans hB.1.os, ht4.trans hB.1.tape, hp4.trans hB.1.output, Nat.le_trans hB.1.size hs4, fun b hb => (hbl4 b (by have := hB.1.size; omega) (by omega)).trans (hB.1.block b hb)⟩, ?_, (hbl4 _ (by omega) (by omega)).trans hB.2.1, ?_, hm4, Nat.le_refl _, (hbl4 _ (by omega) (by omega)).trans hB.2.2.2.2.2⟩
    · rw [← hB.2.2.1]
      exact World.cell?_of_block (hbl4 w.heap.size (cell_block hB.2.2.1) (by have := hB.2.2.2.1; omega))
    · simpa using World.ownsRow_nil w4 w4.heap.size 26 1
  have HCC : Hid (Cir R C) := ⟨hC.rise, hC.mem, hC.len.trans (congrArg List.length (live_withCl R _ 32))⟩
  have hk4 := HP.out.cir
  have v0 : w4.cell? ⟨w2.heap.size, 0, none⟩ = some (.slice (some ⟨blk, 0, none⟩) R.live.length c) := by simp [World.cell?, hk4]
  have vz := cell_block v0
  have hz24 : w2.heap.size < w4.heap.size := vz
  clear hC hm4 hbl4 ho4 ht4 hp4 hk4 u0 uz q0 q3 SRT HR3 hs4 hs4'
  go_wp2
  go_loopg [16] R.live.length (fun kx s wr => ∃ k : Nat, s = .int .i64 k ∧ k ≤ R.live.length ∧ kx = R.live.length - k ∧ Hid (∃ pv, Pz w w4 wr r w.heap.size w2.heap.size blk R.live.length c C R pv k))
  case atStart => exact ⟨0, rfl, Nat.zero_le _, rfl, ⟨_, HP.out⟩⟩
  case round =>
    obtain ⟨k, rfl, hk, rfl, HB⟩ := hrel
    clear HP v0 vz
    obtain ⟨pv, hP⟩ := HB.out
    have HP : Hid (Pz w w4 wr r w.heap.size w2.heap.size blk R.live.length c C R pv k) := hP
    have hkc := hP.cir
    have hsz := hP.siz
    obtain ⟨pa, pc, hpv⟩ : ∃ pa pc, pv = .slice pa k pc := by
      rcases hP.row.2 with ⟨h0, h1⟩ | ⟨g, cap, cur, hv, _⟩
      · exact ⟨none, 0, by rw [h0, h1]⟩
      · exact ⟨_, _, hv⟩
    subst hpv
    clear hP HB
    by_cases hlt : k < R.live.length
    · obtain ⟨b', o', e', hb', hx, hcx⟩ := HP.out.mem.one (v := Value.int .i64) (fun _ => rfl) (i := k) hlt
      simp at e'
      obtain ⟨rfl, rfl⟩ := e'
      simp only [Nat.zero_add] at hcx
      have x0 := HP.out.box
      have xz := cell_block x0
      have y1 : wr.cell? ⟨w2.heap.size, 1, none⟩ = some (.slice pa k pc) := by simp [World.cell?, hkc]
      have yz := cell_block y1
      have yf : ∀ o, wr.frozen? ⟨w2.heap.size, o, none⟩ = false := fun o => by simp [World.frozen?, hkc]
      have HE : Hid ((C.map R.idOf).take (k + 1) = (C.map R.idOf).take k ++ [R.idOf (C.getD k 0)]) := by
        show (C.map R.idOf).take (k + 1) = _
        have hkl : k < C.length := by rw [HCC.out.len]; exact hlt
        rw [List.take_succ_eq_append_getElem (by simpa using hkl)]
        simp [List.getD, hkl]
      generalize C.getD k 0 = y at hcx hx HE
      have HBD : Hid (Below w.heap.size w wr.drew) := HP.out.bel.trans (show Below w.heap.size wr wr.drew from ⟨rfl, rfl, rfl, Nat.le_refl _, fun _ _ => rfl⟩)
      have hrow := HP.out.row
      have kl : k ≤ 40 := by omega
      have hfar : some w2.heap.size ≠ (Value.slice pa k pc).ownBlock := fun e => by have := (World.ownsRow.lt hrow _ e.symm).1; omega
      go_upto_region 6 with fail
      go_region_law
        (first
          | (refine step_append_lies _ (by rfl) _ _ _ (by rfl) w4.heap.size 26 i0 _ 1 8 Tryz.underlying22 hif hz0 hz1 hz2 rfl (by omega) _ _ _ (by rfl) (by first | exact (hrow.drew).alloc _ | exact (hrow.alloc _).drew)
              ⟨wr.heap.size, 0, none⟩ 1 1 [cellP (R.idOf y)] (by rfl) (by rfl) (World.news_of_block (cs := #[.int .u64 (R.idOf y)]) (t := 26) (fr := (0, 0)) (heap_alloc_new wr.drew _)) (by simp [cellP, Value.oneCell'])
              (by omega) (by unfold maxLen; omega) (by omega) (by simp; omega) (wr.heap.size + 1) (by simp) ?_; intro gg cap w6 hown1 hgrow hat hlt3
             have hbx : w6.heap[w2.heap.size]? = some (.cells #[.slice (some ⟨blk, 0, none⟩) R.live.length c, .slice pa k pc] 75 (0, 0)) := (hgrow.block w2.heap.size (by simp; omega) (fun e => hfar e)).trans ((Below.heap_alloc wr.drew _ _ (by simpa using yz)).trans hkc)
             have hf2 : w6.frozen? ⟨w2.heap.size, 1, none⟩ = false := by simp [World.frozen?, hbx]
             have hk1 : w6.cell? ⟨w2.heap.size, 1, none⟩ = some (.slice pa k pc) := by simp [World.cell?, hbx]
             have hl2 := cell_block hk1)
          | (go_simp; go_at_call 40; refine (id_r r gp gk R y _ (H.out.1.below HBD.out)).mono ?_; rintro e w' ⟨rfl, rfl⟩))
      all_goals
        have HN : Hid (Pz w w4 (w6.setCell ⟨w2.heap.size, 1, none⟩ (.slice (some ⟨gg, 0, none⟩) (k + 1) cap)) r w.heap.size w2.heap.size blk R.live.length c C R (.slice (some ⟨gg, 0, none⟩) (k + 1) cap) (k + 1)) := by
          have hgB := (World.ownsRow.lt hown1 gg rfl).1
          have hs6 : wr.heap.size + 1 ≤ w6.heap.size := by have := hgrow.size; simpa using this
          have hblk2 := HB3.out.2.2.2.1
          have hblk3 := HB3.out.2.2.2.2.1
          have ksame : ∀ b, b < wr.heap.size → b < w4.heap.size → b ≠ w2.heap.size → (w6.setCell ⟨w2.heap.size, 1, none⟩ (.slice (some ⟨gg, 0, none⟩) (k + 1) cap)).heap[b]? = wr.heap[b]? := fun b hb hb4 hne => by
            rw [Below.heap_setCell _ _ _ _ (show b ≠ w2.heap.size from hne), hgrow.block b (by simp; omega) (fun e => by have := (World.ownsRow.lt hrow _ e.symm).1; omega)]
            exact Below.heap_alloc wr.drew _ b hb
          have hw := HP.out.bel.size
          refine ⟨⟨hgrow.os.trans HP.out.bel.os, hgrow.tape.trans HP.out.bel.tape, hgrow.output.trans HP.out.bel.output, by simp [World.setCell]; omega, fun b hb => (ksame b (by omega) (by omega) (by omega)).trans (HP.out.bel.block b hb)⟩, ?_, pair_set1 hbx _, ?_, ?_, by simp [World.setCell]; omega, (ksame _ (by omega) (by omega) (by omega)).trans HP.out.res⟩
          · rw [← HP.out.box]
            exact World.cell?_of_block (ksame w.heap.size xz (by omega) (by omega))
          · rw [HE.out, List.map_append]
            exact row_setCell hown1 (by intro e; simp [Value.ownBlock] at e; omega) _
          · exact HP.out.mem.kept (by simp [World.setCell]; omega) (fun x hx hlt => by cases hx; exact ksame blk hlt (by omega) (by omega))
        clear hown1 hgrow hat hbx hf2 hk1 hl2
        go_wp2
        go_roundg (R.live.length - (k + 1))
        case measure => omega
        case rel => exact ⟨k + 1, by go_num, by omega, rfl, ⟨_, HN.out⟩⟩
    · obtain rfl : k = R.live.length := by omega
      have hrs := HP.out.res
      have y0 : wr.cell? ⟨w2.heap.size, 0, none⟩ = some (.slice (some ⟨blk, 0, none⟩) R.live.length c) := by simp [World.cell?, hkc]
      have y1 : wr.cell? ⟨w2.heap.size, 1, none⟩ = some (.slice pa R.live.length pc) := by simp [World.cell?, hkc]
      have yz := cell_block y0
      have t0 : wr.cell? ⟨w.heap.size + 1, 0, none⟩ = some (.slice none 0 0) := by simp [World.cell?, hrs]
      have t1 : wr.cell? ⟨w.heap.size + 1, 1, none⟩ = some (.slice none 0 0) := by simp [World.cell?, hrs]
      have tz := cell_block t0
      have tf : ∀ o, wr.frozen? ⟨w.heap.size + 1, o, none⟩ = false := fun o => by simp [World.frozen?, hrs]
      have hblk2 := HB3.out.2.2.2.1
      have hne : ¬ w.heap.size + 1 = w2.heap.size := by omega
      have hne2 : ¬ w2.heap.size = w.heap.size + 1 := by omega
      clear hkc hrs
      go_wp2
      have hsml := hs2
      refine bodyPost_ret (v := .agg #[.slice (some ⟨blk, 0, none⟩) R.live.length c, .slice pa R.live.length pc]) (by simp [results, Tryz.results34, go_sem, *]) rfl ⟨C, blk, pa, c, pc, rfl, HCC.out, ?_, HC3.out.1, HC3.out.2, ?_, ?_, ?_⟩
      · exact (HP.out.mem.setCell (fun x hx => by cases hx; show blk ≠ w.heap.size + 1; omega) _).setCell (fun x hx => by cases hx; show blk ≠ w.heap.size + 1; omega) _
      · have hr := HP.out.row
        rw [List.take_of_length_le (by rw [List.length_map, HCC.out.len]; exact Nat.le_refl _)] at hr
        have hid := own_ids hr (fun x hx => by
          obtain ⟨y, _, rfl⟩ := List.mem_map.1 hx
          exact H.out.2.u y) (by omega)
        have hf : ∀ x, pa = some x → x.block ≠ w.heap.size + 1 := fun x hx => by
          have := own_new hr x hx
          omega
        exact (hid.setCell hf _).setCell hf _
      · rcases HP.out.row.2 with ⟨_, h0⟩ | ⟨g, cap, cur, hv, _, _, hnc, hcm, _⟩
        · omega
        · simp at hv
          unfold maxLen at hcm
          omega
      · exact (HP.out.bel.setCell (by simp) _).setCell (by simp) _
end Go.Proofs.YtgiiadjocfnhlabGreatDoor

/- slices.Concat of two lists of ints, of whatever length; slices.Index at ints. -/
namespace Go.Proofs.YtgiiadjocfnhlabGreatDoor
open Go.ChangeShapes Go.WideShapes Go.ChangeAt Go.RowKit Go.Deep
set_option linter.unusedVariables false

/-- append(nil, make([]int, m)...). -/
theorem run_growN (m : Nat) (hm1 : 3 ≤ m) (hm2 : m ≤ 40) (w : World) (ty : TypeId) :
    (Builtin.append_ #[24, 3] ty #[.slice none 0 0, .int .i64 (m : Int)]).run Tryz.prog w =
      .ok (.slice (some ⟨w.heap.size, 0, none⟩) m (grownCap w m 0 3)) (w.drew.alloc (.cells (Builtin.zeroCells #[.int .i64 0] m ++ Builtin.zeroCells #[.int .i64 0] (grownCap w m 0 3 - m)) 3)) := by
  obtain ⟨i0, hi, hz0, hz1, hz2⟩ := info_of Tryz.infoInt
  have hs : IntKind.i64.wrap (m : Int) = (m : Int) := (by simp [IntKind.wrap, IntKind.bits, IntKind.signed]; omega)
  have hs2 : ¬ ((m : Int) < 0) := by omega
  have hs3 : ¬ (281474976710656 < (m : Int) * 8) := by omega
  have hs4 : ¬ m = 0 := by omega
  have hs5 : 0 < m := by omega
  simp [Builtin.append_, run_underlying Tryz.underlying24, run_underlying Tryz.underlying3, sizeOf, typeInfo, zeroValue, hi, hz0, hz1, hz2, Question.forced, newRow, grownCap, Builtin.firstCells, asInt, asIntOf, hs, hs2, hs3, hs4, hs5, Builtin.nextslicecap, Value.cells, askRoom]
  rw [if_neg (by omega), if_neg (by omega)]

set_option maxRecDepth 100000 in
set_option maxHeartbeats 1000000 in
theorem growN_r (m : Nat) (hm1 : 3 ≤ m) (hm2 : m ≤ 40) (w : World) :
    Calls Tryz.prog 101 #[.slice none 0 0, .int .i64 (m : Int)] w fun e w' => ∃ v, e = .returned v ∧ w'.ownsRow w.heap.size 3 1 v 0 [] ∧ Below w.heap.size w w' := by
  have hc1 : m ≤ grownCap w m 0 3 := grownCap_ge w m 0 3
  have hc2 : grownCap w m 0 3 ≤ maxLen := grownCap_le_maxLen w m 0 3 (by unfold maxLen; omega)
  have hr := run_growN m hm1 hm2 w
  obtain ⟨W, hW⟩ : ∃ W, W = w.drew.alloc (.cells (Builtin.zeroCells #[.int .i64 0] m ++ Builtin.zeroCells #[.int .i64 0] (grownCap w m 0 3 - m)) 3) := ⟨_, rfl⟩
  have HB : Hid (Below w.heap.size w W) := by rw [hW]; exact (Below.refl _ _ : Below w.heap.size w w).trans ⟨rfl, rfl, rfl, by simp, fun k hk => Below.heap_alloc w.drew _ k hk⟩
  have HG : Hid (W.heap[w.heap.size]? = some (.cells (Builtin.zeroCells #[.int .i64 0] m ++ Builtin.zeroCells #[.int .i64 0] (grownCap w m 0 3 - m)) 3 (0, 0))) := by rw [hW]; exact heap_alloc_new w.drew _
  generalize grownCap w m 0 3 = c at *
  rw [← hW] at hr
  have HR : Hid _ := hr
  clear hr hW
  unfold maxLen at hc2
  have hc3 : 0 ≤ c := by omega
  go_enter Tryz.func101, Tryz.ntmps101
  go_wp2_with (at_builtin; refine wpList_append_run rfl _ _ 24 3 rfl _ _ rfl rfl _ _ (HR.out _) ?_)
  go_ret
  refine ⟨_, rfl, ?_, HB.out⟩
  exact ⟨rfl, .inr ⟨w.heap.size, c, _, rfl, Nat.le_refl _, HG.out, by omega, by unfold maxLen; omega, by simp [size_zeroCells]; omega, rfl⟩⟩

set_option maxRecDepth 100000 in
set_option maxHeartbeats 2000000 in
/-- Concat of two lists, some more in all. -/
theorem concat_n (m : Nat) (hm1 : 3 ≤ m) (hm2 : m ≤ 40) (g : Nat) (a1 : Option Addr) (n1 c1 : Nat) (l1 : List Int) (a2 : Option Addr) (n2 c2 : Nat) (l2 : List Int) (w : World) (h0 : w.cell? ⟨g, 0, none⟩ = some (.slice a1 n1 c1)) (h1 : w.cell? ⟨g, 1, none⟩ = some (.slice a2 n2 c2))
    (hl1 : InIn w a1 n1 l1) (hl2 : InIn w a2 n2 l2) (hn1 : a1 = none → n1 = 0) (hn2 : a2 = none → n2 = 0) (h3 : n1 + n2 = m) :
    Calls Tryz.prog 79 #[.slice (some ⟨g, 0, none⟩) 2 2] w fun e w' => ∃ a c, e = .returned (.slice a m c) ∧ InIn w' a m (l1 ++ l2) ∧ m ≤ c ∧ c ≤ 9223372036854775807 ∧ a ≠ none ∧ (∀ x, a = some x → w.heap.size ≤ x.block) ∧ Below w.heap.size w w' := by
  obtain ⟨i0, hi, hz0, hz1, hz2⟩ := info_of Tryz.infoInt
  have HL : Hid (InIn w a1 n1 l1 ∧ InIn w a2 n2 l2 ∧ (a1 = none → n1 = 0) ∧ (a2 = none → n2 = 0)) := ⟨hl1, hl2, hn1, hn2⟩
  have hg : g < w.heap.size := cell_block h0
  have q1 : (n1 : Int) + (n2 : Int) = (m : Int) := by omega
  have q2 : ¬ (n1 : Int) < 0 := by omega
  have q3 : ¬ (n1 : Int) + (n2 : Int) < 0 := by omega
  have HC : Hid (w.cell? ⟨g, 0, none⟩ = some (.slice a1 n1 c1) ∧ w.cell? ⟨g, 1, none⟩ = some (.slice a2 n2 c2)) := ⟨h0, h1⟩
  have hb1 : (n1 : Int) ≤ 40 := by omega
  have hb2 : (n2 : Int) ≤ 40 := by omega
  clear hl1 hl2 hn1 hn2
  go_enter Tryz.func79, Tryz.ntmps79
  go_wp2
  refine wp_loop_rounds 3 ?_
  rw [rounds_succ]
  go_wp2
  rw [rounds_succ]
  go_wp2
  rw [rounds_succ]
  go_wp2_with fail
  refine (growN_r m hm1 hm2 _).mono ?_
  rintro e w2 ⟨v, rfl, hv, hb⟩
  have HB2 : Hid (Below w.heap.size w w2) := hb
  have HV : Hid (w2.ownsRow w.heap.size 3 1 v 0 []) := hv
  have x0 := cell_grown HC.out.1 hb
  have x1 := cell_grown HC.out.2 hb
  have z2 : g < w2.heap.size := by have := hb.size; omega
  have HS1 : Hid (Src Tryz.prog 1 24 (.slice a1 n1 c1) n1 (l1.map cellI) w2) := src_ints (HL.out.1.below (Nat.le_refl _) hb) HL.out.2.2.1
  clear hv hb h0 h1
  go_wp2
  refine wp_loop_rounds 3 ?_
  rw [rounds_succ]
  go_wp2_with (at_builtin; refine wpList_own_append _ rfl _ _ 24 24 rfl w.heap.size 3 i0 _ 8 Tryz.underlying24 hi hz0 hz1 hz2 rfl _ _ _ rfl HV.out _ n1 _ rfl HS1.out ?c3 ?c4 ?c5 ?_)
  case c3 => unfold maxLen; omega
  case c4 => omega
  case c5 => exact HB2.out.size
  intro v3 w3 ha
  have hgr := ha.grown
  have HB3 : Hid (Below w.heap.size w w3) := HB2.out.trans ⟨hgr.os, hgr.tape, hgr.output, hgr.size, fun k hk => hgr.block k (by have := HB2.out.size; omega) (fun e => by have := (World.ownsRow.lt HV.out k e.symm).1; omega)⟩
  have HV3 : Hid (w3.ownsRow w.heap.size 3 1 v3 n1 (l1.map cellI)) := (show w3.ownsRow w.heap.size 3 1 v3 n1 (l1.map cellI) by simpa using ha.row)
  clear ha hgr x0 x1
  have x0 := cell_grown HC.out.1 HB3.out
  have x1 := cell_grown HC.out.2 HB3.out
  have z3 : g < w3.heap.size := by have := HB3.out.size; omega
  have HS2 : Hid (Src Tryz.prog 1 24 (.slice a2 n2 c2) n2 (l2.map cellI) w3) := src_ints (HL.out.2.1.below (Nat.le_refl _) HB3.out) HL.out.2.2.2
  go_wp2
  rw [rounds_succ]
  go_wp2_with (at_builtin; refine wpList_own_append _ rfl _ _ 24 24 rfl w.heap.size 3 i0 _ 8 Tryz.underlying24 hi hz0 hz1 hz2 rfl _ _ _ rfl HV3.out _ n2 _ rfl HS2.out ?d3 ?d4 ?d5 ?_)
  case d3 => unfold maxLen; omega
  case d4 => omega
  case d5 => exact HB3.out.size
  intro v4 w4 ha
  have hgr := ha.grown
  have HB4 : Hid (Below w.heap.size w w4) := HB3.out.trans ⟨hgr.os, hgr.tape, hgr.output, hgr.size, fun k hk => hgr.block k (by have := HB3.out.size; omega) (fun e => by have := (World.ownsRow.lt HV3.out k e.symm).1; omega)⟩
  obtain ⟨a4, c4, hv4⟩ := ha.shape
  subst hv4
  have HV4 : Hid (w4.ownsRow w.heap.size 3 1 (.slice a4 m c4) m ((l1 ++ l2).map cellI)) := (show w4.ownsRow w.heap.size 3 1 (.slice a4 m c4) m ((l1 ++ l2).map cellI) by simpa using ha.row)
  clear ha hgr
  go_wp2
  rw [rounds_succ]
  go_wp2
  go_ret
  have hk := own_caps HV4.out
  refine ⟨a4, c4, rfl, in_of_own HV4.out (fun x hx => ?_) (by omega), hk.1, hk.2, fun e => ?_, own_new HV4.out, HB4.out⟩
  · rcases List.mem_append.1 hx with h | h
    · exact ints_ok HL.out.1 x h
    · exact ints_ok HL.out.2.1 x h
  · subst e
    rcases HV4.out.2 with ⟨_, e⟩ | ⟨g, cap, cur, hv, _⟩
    · omega
    · cases hv
theorem index_i (a : Option Addr) (n cap : Nat) (l : List Int) (x : Int) (k : Nat) (w : World) (h : InIn w a n l) (hk : k < n) (hx : l.getD k 0 = x) (hmin : ∀ j, j < k → l.getD j 0 ≠ x) :
    Calls Tryz.prog 74 #[.slice a n cap, .int .i64 x] w fun e w' => e = .returned (.int .i64 k) ∧ w' = w := by
  have HI : Hid (InIn w a n l) := h
  have HX : Hid (l.getD k 0 = x ∧ ∀ j, j < k → l.getD j 0 ≠ x) := ⟨hx, hmin⟩
  have hm := h.2.1
  clear h hx hmin
  go_enter Tryz.func74, Tryz.ntmps74
  go_wp2
  go_loop [8] (fun s => ∃ j : Nat, s = .int .i64 j ∧ j ≤ k) (fun s => n - (intOf s).toNat)
  case atStart => exact ⟨0, rfl, Nat.zero_le _⟩
  case round =>
    obtain ⟨j, rfl, hj⟩ := hrel
    have hlt : j < n := by omega
    obtain ⟨b, o, rfl, hb, _, hc⟩ := HI.out.one (v := Value.int .i64) (fun _ => rfl) (i := j) hlt
    by_cases e : j = k
    · subst e
      rw [HX.out.1] at hc
      have ee : (x == x) = true := by simp
      go_wp2
      go_ret
      exact ⟨rfl, rfl⟩
    · have hne := HX.out.2 j (by omega)
      generalize l.getD j 0 = y at hc hne
      have ee : (x == y) = false := by simpa using Ne.symm hne
      go_wp2
      go_round
      case rel => exact ⟨j + 1, by go_num, by omega⟩
      case measure => simp [intOf]; omega
theorem index_none (a : Option Addr) (n cap : Nat) (l : List Int) (x : Int) (w : World) (h : InIn w a n l) (hmin : ∀ j, j < n → l.getD j 0 ≠ x) :
    Calls Tryz.prog 74 #[.slice a n cap, .int .i64 x] w fun e w' => e = .returned (.int .i64 (-1)) ∧ w' = w := by
  have HI : Hid (InIn w a n l) := h
  have HX : Hid (∀ j, j < n → l.getD j 0 ≠ x) := hmin
  have hm := h.2.1
  clear h hmin
  go_enter Tryz.func74, Tryz.ntmps74
  go_wp2
  go_loop [8] (fun s => ∃ j : Nat, s = .int .i64 j ∧ j ≤ n) (fun s => n - (intOf s).toNat)
  case atStart => exact ⟨0, rfl, Nat.zero_le _⟩
  case round =>
    obtain ⟨j, rfl, hj⟩ := hrel
    by_cases hlt : j < n
    · obtain ⟨b, o, rfl, hb, _, hc⟩ := HI.out.one (v := Value.int .i64) (fun _ => rfl) (i := j) hlt
      have hne := HX.out j hlt
      generalize l.getD j 0 = y at hc hne
      have ee : (x == y) = false := by simpa using Ne.symm hne
      go_wp2
      go_round
      case rel => exact ⟨j + 1, by go_num, by omega⟩
      case measure => simp [intOf]; omega
    · go_wp2
      go_ret
      exact ⟨rfl, rfl⟩
end Go.Proofs.YtgiiadjocfnhlabGreatDoor

/- What an address should know; does each one know it? -/
namespace Go.Proofs.YtgiiadjocfnhlabGreatDoor
open Go.ChangeShapes Go.WideShapes Go.ChangeAt Go.RowKit Go.Deep
set_option linter.unusedVariables false

theorem sl_from (g n c i : Nat) (W : World) (hi : i < n) (hc : n ≤ c) (hq : ¬ c = i + 1) : (Instr.slice 24 (.slice (some ⟨g, 0, none⟩) n c) (some (.int .i64 ((i : Int) + 1))) none none).run Tryz.prog W = .ok (.slice (some ⟨g, i + 1, none⟩) (n - (i + 1)) (c - (i + 1))) W := by
  simp [go_sem, Tryz.underlying24]
  rw [if_pos ⟨by omega, by omega⟩, if_neg hq]
theorem sl_end (g n : Nat) (i : Nat) (W : World) (hi : n = i + 1) : (Instr.slice 24 (.slice (some ⟨g, 0, none⟩) n n) (some (.int .i64 ((i : Int) + 1))) none none).run Tryz.prog W = .ok (.slice (some ⟨g, 0, none⟩) 0 0) W := by
  subst hi
  simp [go_sem, Tryz.underlying24]
  omega
theorem sl_to (g n c i : Nat) (W : World) (hi : i < n) (hc : n ≤ c) : (Instr.slice 24 (.slice (some ⟨g, 0, none⟩) n c) none (some (.int .i64 (i : Int))) none).run Tryz.prog W = .ok (.slice (some ⟨g, 0, none⟩) i c) W := by
  simp [go_sem, Tryz.underlying24]
  omega
theorem sl_to3 (g o n c : Nat) (W : World) (hn : 3 ≤ n) (hc : n ≤ c) : (Instr.slice 24 (.slice (some ⟨g, o, none⟩) n c) none (some (.int .i64 3)) none).run Tryz.prog W = .ok (.slice (some ⟨g, o, none⟩) 3 c) W := by
  simp [go_sem, Tryz.underlying24]
  omega
theorem know_some {R : Rg} {n : Int} {p : Pe} (h : R.kn n = some p) : R.know n = p := by simp [Rg.know, h]
theorem lives_none {R : Rg} {n : Int} (h : R.kn n = none) : R.lives n = false := by simp [Rg.lives, h]
theorem zero_pe0 (w : World) : (zeroValue 63).run Tryz.prog w = .ok (.agg #[.int .u64 0, .int .i64 0, .slice none 0 0]) w := by kernel_rfl

set_option maxRecDepth 100000 in
set_option maxHeartbeats 2000000 in
theorem cpeer_r (R : Rg) (C : List Int) (g c d n i : Nat) (b : Option Addr) (w : World) (hm : InIn w (some ⟨g, 0, none⟩) n C) (hc1 : n ≤ c) (hc2 : c ≤ 9223372036854775807) (hp : IdIn w b n (C.map R.idOf)) (h4 : 4 ≤ n) (h32 : n ≤ 32) (hi : i < n) (hmin : ∀ j, j < i → C.getD j 0 ≠ C.getD i 0) :
    Calls Tryz.prog 75 #[.agg #[.slice (some ⟨g, 0, none⟩) n c, .slice b n d], .int .i64 (C.getD i 0)] w fun e w' => ∃ a2 c2, e = .returned (.tuple #[.agg #[.int .u64 (idPe R C i).id, .int .i64 (idPe R C i).pred, .slice a2 3 c2], .bool true]) ∧ InIn w' a2 3 (idPe R C i).succ ∧ 3 ≤ c2 ∧ Below w.heap.size w w' := by
  have hlen : C.length = n := hm.1
  obtain ⟨W1, hW1⟩ : ∃ W1, W1 = (w.alloc (.cells #[.slice (some ⟨g, 0, none⟩) n c, .slice b n d] 75)).alloc (.cells #[.int .u64 0, .int .i64 0, .slice none 0 0] 63) := ⟨_, rfl⟩
  have b1 : Below w.heap.size w W1 := by rw [hW1]; exact (below_one _ _).trans ((below_one _ _).mono (by simp))
  have e0 : W1.heap[w.heap.size]? = some (.cells #[.slice (some ⟨g, 0, none⟩) n c, .slice b n d] 75 (0, 0)) := by rw [hW1, Below.heap_alloc _ _ _ (by simp)]; exact heap_alloc_new w _
  have e1 : W1.heap[w.heap.size + 1]? = some (.cells #[.int .u64 0, .int .i64 0, .slice none 0 0] 63 (0, 0)) := by rw [hW1]; simpa using heap_alloc_new (w.alloc (.cells #[.slice (some ⟨g, 0, none⟩) n c, .slice b n d] 75)) (.cells #[.int .u64 0, .int .i64 0, .slice none 0 0] 63)
  have s1 : W1.heap.size = w.heap.size + 2 := by rw [hW1]; simp
  have x0 : W1.cell? ⟨w.heap.size, 0, none⟩ = some (.slice (some ⟨g, 0, none⟩) n c) := by simp [World.cell?, e0]
  have x1 : W1.cell? ⟨w.heap.size, 1, none⟩ = some (.slice b n d) := by simp [World.cell?, e0]
  have xz := cell_block x0
  have HS1 : Hid (W1.heap.size = w.heap.size + 2) := s1
  clear s1
  have HM : Hid (InIn W1 (some ⟨g, 0, none⟩) n C ∧ IdIn W1 b n (C.map R.idOf) ∧ Below w.heap.size w W1) := ⟨hm.below (Nat.le_refl _) b1, hp.below (Nat.le_refl _) b1, b1⟩
  have HX : Hid _ := hmin
  obtain ⟨x, hx⟩ : ∃ x, C.getD i 0 = x := ⟨_, rfl⟩
  have HXE : Hid (C.getD i 0 = x) := hx
  have IDX : Hid _ := index_i (some ⟨g, 0, none⟩) n c C x i W1 HM.out.1 hi hx (fun j hj => by rw [← hx]; exact hmin j hj)
  rw [hx]
  obtain ⟨pd, hpd⟩ : ∃ pd : Nat, pd = (i + n - 1) % n := ⟨_, rfl⟩
  have hpl : pd < n := by rw [hpd]; exact Nat.mod_lt _ (by omega)
  have epm : ((i : Int) + (n : Int) - 1) % (n : Int) = (pd : Int) := by
    rw [hpd, Int.natCast_emod, show ((i + n - 1 : Nat) : Int) = (i : Int) + (n : Int) - 1 by omega]
  have HPD : Hid (pd = (i + n - 1) % n) := hpd
  have HE : Hid (W1.heap[w.heap.size]? = some (.cells #[.slice (some ⟨g, 0, none⟩) n c, .slice b n d] 75 (0, 0)) ∧ W1.heap[w.heap.size + 1]? = some (.cells #[.int .u64 0, .int .i64 0, .slice none 0 0] 63 (0, 0))) := ⟨e0, e1⟩
  clear hm hp b1 hmin hx hpd e0 e1
  go_enter Tryz.func75, Tryz.ntmps75
  go_upto_region 1 with fail
  rw [← hW1]
  clear hW1
  go_wp2_with fail
  refine Calls.mono IDX.out ?_
  rintro e w' ⟨rfl, hw'⟩
  subst w'
  have hdi : decide ((i : Int) < 0) = false := by simp
  go_upto_region 5 with fail
  rw [epm]
  clear epm
  have ew : IntKind.i64.wrap ((i : Int) + 1) = (i : Int) + 1 := by simp [IntKind.wrap, IntKind.bits, IntKind.signed]; omega
  go_cut [8] (fun v wx => ∃ a6 c6, v = .slice a6 (n - 1) c6 ∧ Hid (InIn wx a6 (n - 1) (C.drop (i + 1) ++ C.take i) ∧ n - 1 ≤ c6 ∧ c6 ≤ 9223372036854775807 ∧ (∀ x, a6 = some x → W1.heap.size ≤ x.block) ∧ Below W1.heap.size W1 wx))
  case first =>
    by_cases hq : c = i + 1
    · have hni : n = i + 1 := by omega
      obtain ⟨W6, hW6⟩ : ∃ W6, W6 = (W1.alloc (.cells #[.slice (some ⟨g, 0, none⟩) 0 0, .slice (some ⟨g, 0, none⟩) i c] 24)).drew := ⟨_, rfl⟩
      have b6 : Hid (Below W1.heap.size W1 W6) := by rw [hW6]; exact below1d _ _
      have HCAT : Hid _ := concat_n (n - 1) (by omega) (by omega) W1.heap.size (some ⟨g, 0, none⟩) 0 0 (C.drop (i + 1)) (some ⟨g, 0, none⟩) i c (C.take i) W6 (by rw [hW6]; simp) (by rw [hW6]; simp) (InRow.below (by rw [List.drop_of_length_le (by omega)]; exact in_empty) (Nat.le_refl _) b6.out) (InRow.below (HM.out.1.take i (by omega)) (Nat.le_refl _) b6.out) (by simp) (by simp) (by omega)
      have hcn : c = n := by omega
      have sl1 : ∀ W, _ := fun W => sl_end g n i W hni
      have sl2 : ∀ W, _ := fun W => sl_to g n n i W hi (Nat.le_refl _)
      subst hcn
      clear hni hq
      go_region_with ((go_at_call 79; rw [← hW6]; refine Calls.mono HCAT.out ?_; rintro e w6 ⟨a6, c6, rfl, h6, hc6, hd6, hn6, hf6, hb6⟩))
      all_goals
        go_wp2
        go_meet
        exact ⟨a6, c6, rfl, (⟨h6, hc6, hd6, fun x hx => Nat.le_trans b6.out.size (hf6 x hx), b6.out.trans (hb6.mono b6.out.size)⟩ : _ ∧ _ ∧ _ ∧ _ ∧ _)⟩
    · have sl1 : ∀ W, _ := fun W => sl_from g n c i W hi hc1 hq
      have sl2 : ∀ W, _ := fun W => sl_to g n c i W hi hc1
      clear hq
      obtain ⟨W6, hW6⟩ : ∃ W6, W6 = (W1.alloc (.cells #[.slice (some ⟨g, i + 1, none⟩) (n - (i + 1)) (c - (i + 1)), .slice (some ⟨g, 0, none⟩) i c] 24)).drew := ⟨_, rfl⟩
      have b6 : Hid (Below W1.heap.size W1 W6) := by rw [hW6]; exact below1d _ _
      have HCAT : Hid _ := concat_n (n - 1) (by omega) (by omega) W1.heap.size (some ⟨g, i + 1, none⟩) (n - (i + 1)) (c - (i + 1)) (C.drop (i + 1)) (some ⟨g, 0, none⟩) i c (C.take i) W6 (by rw [hW6]; simp) (by rw [hW6]; simp) (InRow.below (in_drop HM.out.1 (i + 1) (n - (i + 1)) (by omega)) (Nat.le_refl _) b6.out) (InRow.below (HM.out.1.take i (by omega)) (Nat.le_refl _) b6.out) (by simp) (by simp) (by omega)
      go_region_with ((go_at_call 79; rw [← hW6]; refine Calls.mono HCAT.out ?_; rintro e w6 ⟨a6, c6, rfl, h6, hc6, hd6, hn6, hf6, hb6⟩))
      all_goals
        go_wp2
        go_meet
        exact ⟨a6, c6, rfl, (⟨h6, hc6, hd6, fun x hx => Nat.le_trans b6.out.size (hf6 x hx), b6.out.trans (hb6.mono b6.out.size)⟩ : _ ∧ _ ∧ _ ∧ _ ∧ _)⟩
  case rest =>
    obtain ⟨a6, c6, rfl, HC⟩ := hcut
    have hw6 := HC.out.2.2.2.2
    have hs6 := hw6.size
    have z0 := HS1.out
    have x0' := cell_grown x0 hw6
    have x1' := cell_grown x1 hw6
    have e1 : wc.heap[w.heap.size + 1]? = some (.cells #[.int .u64 0, .int .i64 0, .slice none 0 0] 63 (0, 0)) := (hw6.block _ (by omega)).trans HE.out.2
    have t0 : wc.cell? ⟨w.heap.size + 1, 0, none⟩ = some (.int .u64 0) := by simp [World.cell?, e1]
    have t1 : wc.cell? ⟨w.heap.size + 1, 1, none⟩ = some (.int .i64 0) := by simp [World.cell?, e1]
    have t2 : wc.cell? ⟨w.heap.size + 1, 2, none⟩ = some (.slice none 0 0) := by simp [World.cell?, e1]
    have tf : ∀ o, wc.frozen? ⟨w.heap.size + 1, o, none⟩ = false := fun o => by simp [World.frozen?, e1]
    have tz := cell_block t0
    have xz' := cell_block x0'
    obtain ⟨pb, po, hpb, hpbl, _, hpc⟩ := (HM.out.2.1.below (Nat.le_refl _) hw6).one (v := Value.int .u64) (fun _ => rfl) (i := i) hi
    have hid : (C.map R.idOf).getD i 0 = R.idOf x := by
      have : i < C.length := by omega
      rw [← HXE.out]
      simp [List.getD, this]
    rw [hid] at hpc
    subst hpb
    obtain ⟨mb, mo, hmb, hmbl, _, hmc⟩ := (HM.out.1.below (Nat.le_refl _) hw6).one (v := Value.int .i64) (fun _ => rfl) (i := pd) hpl
    simp at hmb
    obtain ⟨rfl, rfl⟩ := hmb
    simp only [Nat.zero_add] at hmc
    obtain ⟨ob, oo, hob, hobl, _, _⟩ := HC.out.1.one (v := Value.int .i64) (fun _ => rfl) (i := 0) (by omega)
    subst hob
    have HOB : Hid (W1.heap.size ≤ ob) := HC.out.2.2.2.1 _ rfl
    have HCC : Hid (InIn wc (some ⟨ob, oo, none⟩) 3 ((C.drop (i + 1) ++ C.take i).take 3) ∧ Below W1.heap.size W1 wc) := ⟨HC.out.1.take 3 (by omega), hw6⟩
    have hc6 := HC.out.2.1
    have HID : Hid ((idPe R C i).id = R.idOf x ∧ (idPe R C i).pred = C.getD pd 0 ∧ (idPe R C i).succ = (C.drop (i + 1) ++ C.take i).take 3) := ⟨by show R.idOf (C.getD i 0) = _; rw [HXE.out], by show C.getD ((i + C.length - 1) % C.length) 0 = _; rw [hlen, HPD.out], rfl⟩
    obtain ⟨m1, hm1⟩ : ∃ m1, m1 = n - 1 := ⟨_, rfl⟩
    rw [← hm1] at hc6 ⊢
    have hm3 : 3 ≤ m1 := by omega
    have hm40 : m1 ≤ 40 := by omega
    have sl3 : ∀ W, _ := fun W => sl_to3 ob oo m1 c6 W hm3 hc6
    have hmn1 : ¬ ((m1 : Int) < 3) := by omega
    have hmn3 : min (m1 : Int) 3 = 3 := by omega
    generalize C.getD pd 0 = pv at hmc HID
    clear hw6 hs6 e1 HC hid hm1 z0 x0 x1
    go_upto_region 7 with fail
    go_region
    all_goals
      go_wp2
      have hob := HOB.out
      have hs1 := HS1.out
      have hf : ∀ y, (some ⟨ob, oo, none⟩ : Option Addr) = some y → y.block ≠ w.heap.size + 1 := fun y hy => by cases hy; show ob ≠ w.heap.size + 1; omega
      clear hs1 hob
      refine bodyPost_ret (v := .tuple #[.agg #[.int .u64 (R.idOf x), .int .i64 pv, .slice (some ⟨ob, oo, none⟩) 3 c6], .bool true]) (by simp [results, Tryz.results75, go_sem, *]) rfl ⟨some ⟨ob, oo, none⟩, c6, ?_, ?_, ?_, ?_⟩
      · rw [HID.out.1, HID.out.2.1]
      · rw [HID.out.2.2]
        exact ((HCC.out.1.setCell hf _).setCell hf _).setCell hf _
      · omega
      · have hbb : Below w.heap.size w wc := HM.out.2.2.trans (HCC.out.2.mono HM.out.2.2.size)
        have hq : ∀ o : Nat, w.heap.size ≤ (⟨w.heap.size + 1, o, none⟩ : Addr).block := fun o => Nat.le_succ _
        exact (((hbb.setCell (hq 0) _).setCell (hq 1) _).setCell (hq 2) _).trans ⟨rfl, rfl, rfl, Nat.le_refl _, fun _ _ => rfl⟩

set_option maxRecDepth 100000 in
set_option maxHeartbeats 4000000 in
theorem is_r (r gp gk : Nat) (R : Rg) (w : World) (h : RingAt w r gp gk R) (hi : Inv R) :
    Calls Tryz.prog 42 #[.pointer (some ⟨r, 0, none⟩)] w fun e w' => ∃ C, Cir R C ∧ e = .returned (.bool (isB R C C.length)) ∧ Below w.heap.size w w' := by
  have H : Hid (RingAt w r gp gk R ∧ Inv R) := ⟨h, hi⟩
  have hll : R.live.length ≤ 32 := liveTo_len R 32
  have h4 := live_four hi
  clear h hi
  go_enter Tryz.func42, Tryz.ntmps42
  go_wp2_with fail
  refine (of_r r gp gk R _ H.out.1 H.out.2).mono ?_
  rintro e w1 ⟨C, g, b, c, d, rfl, hC, hm, hc1, hc2, hp, hd, hb1⟩
  obtain ⟨n, hn⟩ : ∃ n, n = R.live.length := ⟨_, rfl⟩
  rw [← hn] at hm hc1 hp hd hll h4 ⊢
  have HC : Hid (Cir R C ∧ InIn w1 (some ⟨g, 0, none⟩) n C ∧ IdIn w1 b n (C.map R.idOf) ∧ Below w.heap.size w w1 ∧ c ≤ 9223372036854775807) := ⟨hC, hm, hp, hb1, hc2⟩
  have HL : Hid (C.length = n) := hm.1
  have HND : Hid (∀ i j, i < n → j < i → C.getD j 0 ≠ C.getD i 0) := fun i j hi hj e => by
    have := hC.lt hj (by rw [hm.1]; exact hi)
    rw [e] at this
    exact absurd this (by omega)
  obtain ⟨W2, hW2⟩ : ∃ W2, W2 = w1.alloc (.cells #[.slice (some ⟨g, 0, none⟩) n c, .slice b n d] 75) := ⟨_, rfl⟩
  have b2 : Below w1.heap.size w1 W2 := by rw [hW2]; exact below_one _ _
  have x0 : W2.cell? ⟨w1.heap.size, 0, none⟩ = some (.slice (some ⟨g, 0, none⟩) n c) := by rw [hW2]; simp
  have x1 : W2.cell? ⟨w1.heap.size, 1, none⟩ = some (.slice b n d) := by rw [hW2]; simp
  have xz := cell_block x0
  have HX : Hid (W2.cell? ⟨w1.heap.size, 0, none⟩ = some (.slice (some ⟨g, 0, none⟩) n c) ∧ W2.cell? ⟨w1.heap.size, 1, none⟩ = some (.slice b n d)) := ⟨x0, x1⟩
  have H2 : Hid (RingAt W2 r gp gk R ∧ InIn W2 (some ⟨g, 0, none⟩) n C ∧ IdIn W2 b n (C.map R.idOf) ∧ Below w.heap.size w W2) := ⟨(H.out.1.below hb1).below b2, hm.below (Nat.le_refl _) b2, hp.below (Nat.le_refl _) b2, hb1.trans (b2.mono hb1.size)⟩
  clear hC hm hp hd hb1 hc2 b2 hn
  go_upto_region 2 with fail
  rw [← hW2]
  clear hW2
  go_wp2
  go_loopg [15] n (fun kx s wr => ∃ k : Nat, s = .int .i64 k ∧ k ≤ n ∧ kx = n - k ∧ Hid (Below W2.heap.size W2 wr) ∧ Hid (isB R C k = true))
  case atStart => exact ⟨0, rfl, Nat.zero_le _, rfl, (Below.refl _ _ : Below W2.heap.size W2 W2), (rfl : isB R C 0 = true)⟩
  case round =>
    obtain ⟨k, rfl, hk, rfl, HB, HI⟩ := hrel
    by_cases hlt : k < n
    · obtain ⟨g', o', e', hgl, _, hcx⟩ := (H2.out.2.1.below (Nat.le_refl _) HB.out).one (v := Value.int .i64) (fun _ => rfl) (i := k) hlt
      simp at e'
      obtain ⟨rfl, rfl⟩ := e'
      simp only [Nat.zero_add] at hcx
      have hlv : R.lives (C.getD k 0) = true := HC.out.1.lv (by rw [HL.out]; exact hlt)
      obtain ⟨p, hkn⟩ : ∃ p, R.kn (C.getD k 0) = some p := by
        cases hq : R.kn (C.getD k 0) with
        | none => rw [lives_none hq] at hlv; cases hlv
        | some p => exact ⟨p, rfl⟩
      have hpl := H.out.2.lens _ _ hkn
      have hkw : R.know (C.getD k 0) = p := know_some hkn
      have HKN : Hid (R.kn (C.getD k 0) = some p ∧ p.succ.length ≤ 1000 ∧ isB R C (k + 1) = (isB R C k && peB p (idPe R C k))) := ⟨hkn, by omega, by show (isB R C k && peB (R.know (C.getD k 0)) (idPe R C k)) = _; rw [hkw]⟩
      have CP := fun W h1 h2 => cpeer_r R C g c d n k b W h1 hc1 HC.out.2.2.2.2 h2 h4 hll hlt (fun j hj => HND.out k j hlt hj)
      have HNO : Hid (peB p (idPe R C k) = false → isB R C C.length = false) := fun hf => isB_no (k := k) (by rw [hkw]; exact hf) _ (by rw [HL.out]; exact hlt)
      generalize C.getD k 0 = x at hcx HKN CP
      have HCP : Hid _ := CP
      obtain ⟨pid, ppr, psc⟩ := p
      clear hlv hkn hpl hkw CP
      go_wp2_with fail
      refine (peer_some r gp gk R x _ _ (H2.out.1.below HB.out) HKN.out.1 HKN.out.2.1).mono ?_
      rintro e w3 ⟨a3, l3, c3, rfl, h3, b3⟩
      simp only
      have H3 : Hid (Below W2.heap.size W2 w3 ∧ InIn w3 a3 l3 psc) := ⟨HB.out.trans (b3.mono HB.out.size), h3.row⟩
      clear h3 b3
      obtain ⟨W4, hW4⟩ : ∃ W4, W4 = w3.alloc (.cells #[.int .u64 pid, .int .i64 ppr, .slice a3 l3 c3] 63) := ⟨_, rfl⟩
      have b4 : Below w3.heap.size w3 W4 := by rw [hW4]; exact below_one _ _
      have H4 : Hid (Below W2.heap.size W2 W4 ∧ InIn W4 a3 l3 psc) := ⟨H3.out.1.trans (b4.mono H3.out.1.size), H3.out.2.below (Nat.le_refl _) b4⟩
      have y0 : W4.cell? ⟨w3.heap.size, 0, none⟩ = some (.int .u64 pid) := by rw [hW4]; simp
      have y1 : W4.cell? ⟨w3.heap.size, 1, none⟩ = some (.int .i64 ppr) := by rw [hW4]; simp
      have y2 : W4.cell? ⟨w3.heap.size, 2, none⟩ = some (.slice a3 l3 c3) := by rw [hW4]; simp
      have z0 := cell_grown HX.out.1 H4.out.1
      have z1 := cell_grown HX.out.2 H4.out.1
      have zz := cell_block z0
      clear b4 H3 x0 x1 xz
      go_upto_region 6 with fail
      rw [← hW4]
      clear hW4
      go_wp2_with fail
      refine Calls.mono (HCP.out _ (H2.out.2.1.below (Nat.le_refl _) H4.out.1) (H2.out.2.2.1.below (Nat.le_refl _) H4.out.1)) ?_
      rintro e w5 ⟨a5, c5, rfl, h5, _, b5⟩
      obtain ⟨q, hq⟩ : ∃ q, idPe R C k = q := ⟨_, rfl⟩
      rw [hq] at h5 ⊢
      have HKN2 : Hid (isB R C (k + 1) = (isB R C k && peB ⟨pid, ppr, psc⟩ q) ∧ (peB ⟨pid, ppr, psc⟩ q = false → isB R C C.length = false)) := by rw [← hq]; exact ⟨HKN.out.2.2, HNO.out⟩
      obtain ⟨qid, qpr, qsc⟩ := q
      simp only
      have H5 : Hid (Below W2.heap.size W2 w5 ∧ InIn w5 a3 l3 psc ∧ InIn w5 a5 3 qsc) := ⟨H4.out.1.trans (b5.mono H4.out.1.size), H4.out.2.below (Nat.le_refl _) b5, h5⟩
      replace y0 := cell_grown y0 b5
      replace y1 := cell_grown y1 b5
      replace y2 := cell_grown y2 b5
      clear h5 b5 H4 hq z0 z1 zz
      obtain ⟨W6, hW6⟩ : ∃ W6, W6 = w5.alloc (.cells #[.int .u64 qid, .int .i64 qpr, .slice a5 3 c5] 63) := ⟨_, rfl⟩
      have b6 : Below w5.heap.size w5 W6 := by rw [hW6]; exact below_one _ _
      have H6 : Hid (Below W2.heap.size W2 W6 ∧ InIn W6 a3 l3 psc ∧ InIn W6 a5 3 qsc) := ⟨H5.out.1.trans (b6.mono H5.out.1.size), H5.out.2.1.below (Nat.le_refl _) b6, H5.out.2.2.below (Nat.le_refl _) b6⟩
      replace y0 := cell_grown y0 b6
      replace y1 := cell_grown y1 b6
      replace y2 := cell_grown y2 b6
      have t0 : W6.cell? ⟨w5.heap.size, 0, none⟩ = some (.int .u64 qid) := by rw [hW6]; simp
      have t1 : W6.cell? ⟨w5.heap.size, 1, none⟩ = some (.int .i64 qpr) := by rw [hW6]; simp
      have t2 : W6.cell? ⟨w5.heap.size, 2, none⟩ = some (.slice a5 3 c5) := by rw [hW6]; simp
      have yz := cell_block y0
      have tz := cell_block t0
      clear b6 H5
      go_upto_region 7 with fail
      rw [← hW6]
      clear hW6
      cases hpe : peB ⟨pid, ppr, psc⟩ ⟨qid, qpr, qsc⟩
      · have HPE : Hid _ := hpe
        clear hpe
        go_wp2_with (go_at_call 76; refine (same_any ⟨pid, ppr, psc⟩ ⟨qid, qpr, qsc⟩ a3 a5 l3 3 c3 c5 _ H6.out.2.1 H6.out.2.2).mono ?_; rintro e w7 ⟨rfl, b7⟩; rw [HPE.out])
        go_ret
        have bb := H6.out.1.trans (b7.mono H6.out.1.size)
        exact ⟨C, HC.out.1, ret_b (HKN2.out.2 HPE.out).symm, H2.out.2.2.2.trans (bb.mono H2.out.2.2.2.size)⟩
      · have HPE : Hid _ := hpe
        clear hpe
        go_wp2_with (go_at_call 76; refine (same_any ⟨pid, ppr, psc⟩ ⟨qid, qpr, qsc⟩ a3 a5 l3 3 c3 c5 _ H6.out.2.1 H6.out.2.2).mono ?_; rintro e w7 ⟨rfl, b7⟩; rw [HPE.out])
        go_roundg (n - (k + 1))
        case measure => omega
        case rel => exact ⟨k + 1, by go_num, by omega, rfl, H6.out.1.trans (b7.mono H6.out.1.size), by rw [HKN2.out.1, HI.out, HPE.out]; rfl⟩
    · obtain rfl : k = n := by omega
      go_wp2
      go_ret
      exact ⟨C, HC.out.1, ret_b (by rw [HL.out, HI.out]), H2.out.2.2.2.trans (HB.out.mono H2.out.2.2.2.size)⟩
theorem rounds_r (n : Nat) (w : World) (hn : n ≤ 1000) : Calls Tryz.prog 32 #[.int .i64 n] w fun e w' => e = .returned (.int .i64 (4 * (n : Int) + 8)) ∧ w' = w := by
  have hx : max (n : Int) 0 = (n : Int) := by omega
  go_enter Tryz.func32, Tryz.ntmps32
  go_wp2
  go_ret
  exact ⟨rfl, rfl⟩
end Go.Proofs.YtgiiadjocfnhlabGreatDoor

/- Who may go: lists with two that live; a ring that nobody left. The base of the document's example. No program in sight. -/
namespace Go.Proofs.YtgiiadjocfnhlabGreatDoor
set_option linter.unusedVariables false

/-- A list with two that live. -/
def Dbl (m : Int) (R : Rg) : Prop := ∃ x y, x ∈ (R.know m).succ ∧ y ∈ (R.know m).succ ∧ x ≠ y ∧ R.lives x = true ∧ R.lives y = true
theorem Inv.free {R : Rg} (h : Inv R) (hd : ∀ m, R.lives m = true → Dbl m R) {n : Int} (hn : R.lives n = true) (h4 : 4 ≤ n) : R.failC n = 0 := by
  have hnd : R.needed n = false := by
    unfold Rg.needed anyF
    rw [List.any_eq_false]
    intro m hm
    have hl := ((mem_live R m).1 hm).2.2
    obtain ⟨x, y, hx, hy, hxy, lx, ly⟩ := hd m hl
    have key : ∃ z ∈ (R.know m).succ, (fun x => x != -1 && (x != n && R.lives x)) z = true := by
      have rx := (h.rng x lx).1
      have ry := (h.rng y ly).1
      by_cases e : x = n
      · refine ⟨y, hy, ?_⟩
        have : y ≠ n := fun q => hxy (e.trans q.symm)
        simp [ly, this]; omega
      · refine ⟨x, hx, ?_⟩
        simp [lx, e]; omega
    have hs := (headF_spec key).1
    simp only [Bool.and_eq_true, bne_iff_ne] at hs
    unfold Rg.lone
    have e1 : (headF (fun x => x != -1 && (x != n && R.lives x)) (R.know m).succ == -1) = false := by simpa using hs.1
    rw [e1]; simp
  unfold Rg.failC
  rw [hn, hnd]
  have : ¬ n < 4 := by omega
  simp [this]
/-- Nobody went. -/
def NW (R : Rg) : Prop := ∀ x, (R.pl x).isSome = true → R.lives x = true
theorem Inv.dbl_nw {R : Rg} (h : Inv R) (hw : NW R) (m : Int) (hm : R.lives m = true) : Dbl m R := by
  have hl := h.len m hm
  have hall : ∀ x ∈ (R.know m).succ, R.lives x = true := fun x hx => hw x (h.mem m hm x hx)
  have hc := h.ch m hm
  unfold Dbl
  match hs : (R.know m).succ, hl with
  | [s1, s2, s3], _ =>
    rw [hs] at hall hc
    have l1 := hall s1 (by simp)
    have l2 := hall s2 (by simp)
    simp only [Chain, l1, l2, if_true] at hc
    exact ⟨s1, s2, by simp, by simp, fun e => h.apart hc.2.1 e.symm, l1, l2⟩
theorem NW.join {R : Rg} (hw : NW R) (n id via : Int) : NW (R.join n id via) := by
  unfold Rg.join
  split
  · intro x hx
    rw [pl_joined] at hx
    rw [lives_joined]
    split
    · rfl
    · rename_i e; rw [if_neg e] at hx; exact hw x hx
  · exact hw
theorem NW.round {R : Rg} (h : Inv R) (hw : NW R) : NW R.round := by
  intro x hx
  rw [lives_round h]
  rw [(round_alike R).2] at hx
  exact hw x hx
theorem pl_round (R : Rg) : R.round.pl = R.pl := (round_alike R).2
theorem idOf_round (R : Rg) (x : Int) : R.round.idOf x = R.idOf x := (round_alike R).idOf x

theorem ringA_pl (x : Int) : (ringA.pl x).isSome = true ↔ 0 ≤ x ∧ x < 4 := by
  have e : ringA.pl x = if x = 3 then some 40 else if x = 2 then some 30 else if x = 1 then some 20 else if x = 0 then some 10 else none := rfl
  rw [e]
  split
  · simp; omega
  · split
    · simp; omega
    · split
      · simp; omega
      · split
        · simp; omega
        · simp; omega
theorem ringA_lives (x : Int) : ringA.lives x = true ↔ 0 ≤ x ∧ x < 4 := by
  have e : ringA.kn x = if x = 3 then some ⟨40, 2, [0, 1, 2]⟩ else if x = 2 then some ⟨30, 1, [3, 0, 1]⟩ else if x = 1 then some ⟨20, 0, [2, 3, 0]⟩ else if x = 0 then some ⟨10, 3, [1, 2, 3]⟩ else none := rfl
  unfold Rg.lives
  rw [e]
  split
  · simp; omega
  · split
    · simp; omega
    · split
      · simp; omega
      · split
        · simp; omega
        · simp; omega
theorem ringA_inv : Inv ringA := by
  have hp : ids4.Pairwise (· < ·) := by simp [ids4]
  have hm : ∀ x, x ∈ ids4 ↔ x ∈ ids4 := fun _ => Iff.rfl
  obtain ⟨c0, c1, c2, c3, hc⟩ := circ_of (l := ids4) rfl hp hm rfl
  refine hc.inv hp hm (fun k => ?_)
  match k with
  | 0 => simp [ids4, Plc]
  | 1 => simp [ids4, Plc]
  | 2 => simp [ids4, Plc]
  | 3 => simp [ids4, Plc]
  | k + 4 => simp [ids4, Plc]
theorem ringA_nw : NW ringA := fun x hx => (ringA_lives x).2 ((ringA_pl x).1 hx)

theorem joinC_of {R : Rg} {n id via : Int} (h0 : 0 ≤ n) (h1 : n < 32) (hp : (R.pl n).isSome = false) (hv : R.lives via = true) : R.joinC n id via = if R.taken id then 8 else if R.ahead id via = -1 then 5 else 0 := by
  unfold Rg.joinC
  rw [if_neg (by omega), hp, hv]
  simp
theorem taken_of {R : Rg} {n id : Int} (h : Inv R) (hn : R.lives n = true) (hid : R.idOf n = id) : R.taken id = true := by
  unfold Rg.taken anyF
  rw [List.any_eq_true]
  exact ⟨n, h.in_live hn, by simp [hid]⟩
theorem not_taken_of {R : Rg} {id : Int} (h : ∀ n, R.lives n = true → R.idOf n ≠ id) : R.taken id = false := by
  unfold Rg.taken anyF
  rw [List.any_eq_false]
  intro n hn
  simpa using h n ((mem_live R n).1 hn).2.2
/-- What the calls of ChordTaken come to. -/
theorem taken_calls {n m id : Int} (hn : 4 ≤ n) (hn2 : n < 32) (hm : 4 ≤ m) (hm2 : m < 32) (hne : n ≠ m) (hid : Plc id) :
    (ringA.joinC n id 0 = 8 ∧ (ringA.join n id 0).joinC m id 1 = 8) ∨
    (ringA.joinC n id 0 = 0 ∧ (ringA.join n id 0).joinC m id 1 = 8 ∧ (((ringA.join n id 0).join m id 1).round).failC n = 0 ∧
      ((((ringA.join n id 0).join m id 1).round.fail n).round).joinC m id 2 = 0 ∧
      (((((ringA.join n id 0).join m id 1).round.fail n).round).join m id 2).lives m = true ∧ (((((ringA.join n id 0).join m id 1).round.fail n).round).join m id 2).lives n = false) := by
  have hi := ringA_inv
  have pn : (ringA.pl n).isSome = false := by
    cases h : (ringA.pl n).isSome
    · rfl
    · have := (ringA_pl n).1 h; omega
  have pm : (ringA.pl m).isSome = false := by
    cases h : (ringA.pl m).isSome
    · rfl
    · have := (ringA_pl m).1 h; omega
  have j1 := joinC_of (R := ringA) (id := id) (via := 0) (by omega) hn2 pn (hi.base 0 (by omega) (by omega))
  cases ht : ringA.taken id
  · rw [ht] at j1
    have ha := hi.ahead (via := 0) hid ht (hi.base 0 (by omega) (by omega))
    have hr := (hi.rng _ ha.1).1
    rw [if_neg (by simp), if_neg (by omega)] at j1
    right
    refine ⟨j1, ?_⟩
    have hi1 := hi.join n id 0 hid
    have nw1 := ringA_nw.join n id 0
    have e1 : ringA.join n id 0 = ringA.joined n id (ringA.ahead id 0) := if_pos j1
    have lv1 : ∀ x, (ringA.join n id 0).lives x = if x = n then true else ringA.lives x := fun x => by rw [e1, lives_joined]
    have pl1 : ∀ x, (ringA.join n id 0).pl x = if x = n then some id else ringA.pl x := fun x => by rw [e1, pl_joined]
    have io1 : ∀ x, (ringA.join n id 0).idOf x = if x = n then id else ringA.idOf x := fun x => by unfold Rg.idOf; rw [pl1]; split <;> rfl
    generalize ringA.join n id 0 = R1 at *
    have tk : R1.taken id = true := taken_of hi1 (n := n) (by rw [lv1, if_pos rfl]) (by rw [io1, if_pos rfl])
    have j2 : R1.joinC m id 1 = 8 := by
      rw [joinC_of (by omega) hm2 (by rw [pl1, if_neg (Ne.symm hne)]; exact pm) (hi1.base 1 (by omega) (by omega)), tk]; rfl
    have e2 : R1.join m id 1 = R1 := by unfold Rg.join; rw [j2]; rfl
    rw [e2]
    refine ⟨j2, ?_⟩
    have hi2 := hi1.round
    have nw2 := nw1.round hi1
    have ln : R1.round.lives n = true := by rw [lives_round hi1, lv1, if_pos rfl]
    have f := hi2.free (hi2.dbl_nw nw2) ln hn
    refine ⟨f, ?_⟩
    have hi3 := hi2.fail n
    have e3 : R1.round.fail n = R1.round.delK n := if_pos f
    rw [e3] at hi3 ⊢
    have hi4 := hi3.round
    have lv4 : ∀ x, (R1.round.delK n).round.lives x = if x = n then false else ringA.lives x := fun x => by
      rw [lives_round hi3, lives_delK]
      split
      · rfl
      · rename_i e; rw [lives_round hi1, lv1, if_neg e]
    have pl4 : ∀ x, (R1.round.delK n).round.pl x = if x = n then some id else ringA.pl x := fun x => by
      rw [pl_round]
      show R1.round.pl x = _
      rw [pl_round, pl1]
    generalize (R1.round.delK n).round = R4 at *
    have tk4 : R4.taken id = false := not_taken_of (fun x hx => by
      rw [lv4] at hx
      by_cases e : x = n
      · rw [if_pos e] at hx; cases hx
      · rw [if_neg e] at hx
        have := not_taken ht (hi.in_live hx)
        unfold Rg.idOf at *
        rw [pl4, if_neg e]; exact this)
    have ha4 := hi4.ahead (via := 2) hid tk4 (hi4.base 2 (by omega) (by omega))
    have hr4 := (hi4.rng _ ha4.1).1
    have j4 : R4.joinC m id 2 = 0 := by
      rw [joinC_of (by omega) hm2 (by rw [pl4, if_neg (Ne.symm hne)]; exact pm) (hi4.base 2 (by omega) (by omega)), tk4, if_neg (by simp), if_neg (by omega)]
    have e5 : R4.join m id 2 = R4.joined m id (R4.ahead id 2) := if_pos j4
    refine ⟨j4, ?_, ?_⟩
    · rw [e5, lives_joined, if_pos rfl]
    · rw [e5, lives_joined, if_neg hne, lv4, if_pos rfl]
  · rw [ht] at j1
    left
    have j1' : ringA.joinC n id 0 = 8 := by rw [j1]; rfl
    have e1 : ringA.join n id 0 = ringA := by unfold Rg.join; rw [j1']; rfl
    refine ⟨j1', ?_⟩
    rw [e1, joinC_of (by omega) hm2 pm (hi.base 1 (by omega) (by omega)), ht]; rfl
end Go.Proofs.YtgiiadjocfnhlabGreatDoor

/- What ring.Start answers. -/
namespace Go.Proofs.YtgiiadjocfnhlabGreatDoor
open Go.ChangeShapes Go.WideShapes Go.ChangeAt Go.RowKit

theorem start_any (x n : Int) (w : World) :
    Calls Tryz.prog 47 #[.int .u64 x, .int .i64 n] w fun e w' => e = .returned (.int .u64 (startN x n)) ∧ w' = w := by
  by_cases h0 : n < 0
  · go_enter Tryz.func47, Tryz.ntmps47
    go_wp2
    go_ret
    exact ⟨ret_i (start_out x n (Or.inl h0)).symm, rfl⟩
  · by_cases h1 : 63 < n
    · go_enter Tryz.func47, Tryz.ntmps47
      go_wp2
      go_ret
      exact ⟨ret_i (start_out x n (Or.inr h1)).symm, rfl⟩
    · go_enter Tryz.func47, Tryz.ntmps47
      go_wp2
      go_ret
      refine ⟨ret_i ?_, rfl⟩
      rw [start_in x n (by omega) (by omega)]
      exact Int.add_emod_emod _ _ _
end Go.Proofs.YtgiiadjocfnhlabGreatDoor

/- Owner, Finger, Len; layer 11's answers that the document fixes. -/
namespace Go.Proofs.YtgiiadjocfnhlabGreatDoor
open Go.ChangeShapes Go.WideShapes Go.ChangeAt Go.RowKit Go.Deep
set_option linter.unusedVariables false

theorem clen_r (v : Value) (a : Option Addr) (n c : Nat) (w : World) : Calls Tryz.prog 41 #[.agg #[.slice a n c, v]] w fun e w' => e = .returned (.int .i64 n) ∧ Below w.heap.size w w' := by
  go_enter Tryz.func41, Tryz.ntmps41
  go_wp2
  go_ret
  exact ⟨rfl, below_one _ _⟩
set_option maxHeartbeats 2000000 in
theorem cowner_r (R : Rg) (C : List Int) (g c d n k : Nat) (b : Option Addr) (x : Int) (w : World) (hm : InIn w (some ⟨g, 0, none⟩) n C) (hp : IdIn w b n (C.map R.idOf)) (h4 : 4 ≤ n) (hk : ownerN (C.map R.idOf) x = (k : Int)) (hkn : k < n) :
    Calls Tryz.prog 35 #[.agg #[.slice (some ⟨g, 0, none⟩) n c, .slice b n d], .int .u64 x] w fun e w' => e = .returned (.int .i64 (C.getD k 0)) ∧ Below w.heap.size w w' := by
  obtain ⟨W1, hW1⟩ : ∃ W1, W1 = w.alloc (.cells #[.slice (some ⟨g, 0, none⟩) n c, .slice b n d] 75) := ⟨_, rfl⟩
  have b1 : Below w.heap.size w W1 := by rw [hW1]; exact below_one _ _
  have x0 : W1.cell? ⟨w.heap.size, 0, none⟩ = some (.slice (some ⟨g, 0, none⟩) n c) := by rw [hW1]; simp
  have x1 : W1.cell? ⟨w.heap.size, 1, none⟩ = some (.slice b n d) := by rw [hW1]; simp
  have xz := cell_block x0
  have hp1 := hp.below (Nat.le_refl _) b1
  obtain ⟨pb, po, hpb, _, _, _⟩ := hp1.one (v := Value.int .u64) (fun _ => rfl) (i := 0) (by omega)
  subst hpb
  have hpm := hp1.2.1
  obtain ⟨g', o', e', hgl, _, hcx⟩ := (hm.below (Nat.le_refl _) b1).one (v := Value.int .i64) (fun _ => rfl) (i := k) hkn
  simp at e'
  obtain ⟨rfl, rfl⟩ := e'
  simp only [Nat.zero_add] at hcx
  have OW : Hid _ := owner_some pb po n d (C.map R.idOf) x W1 hp1.1 (by omega) hpm (fun j hj => by
    obtain ⟨b2, o2, e2, _, _, h2⟩ := hp1.one (v := Value.int .u64) (fun _ => rfl) (i := j) hj
    cases e2; exact h2)
  rw [hk] at OW
  have HB : Hid (Below w.heap.size w W1) := b1
  have hk0 : ¬ (k : Int) < 0 := by omega
  generalize C.getD k 0 = y at hcx
  clear hp hm b1 hp1 hk
  go_enter Tryz.func35, Tryz.ntmps35
  go_upto_region 1 with fail
  rw [← hW1]
  clear hW1
  go_wp2_with (go_at_call 73; refine Calls.mono OW.out ?_; rintro e w' ⟨rfl, rfl⟩)
  go_ret
  exact ⟨rfl, HB.out⟩
set_option maxHeartbeats 2000000 in
theorem cfinger_r (R : Rg) (C : List Int) (g c d n i j k : Nat) (b : Option Addr) (w : World) (hm : InIn w (some ⟨g, 0, none⟩) n C) (hp : IdIn w b n (C.map R.idOf)) (h4 : 4 ≤ n) (hi : i < n) (hmin : ∀ j, j < i → C.getD j 0 ≠ C.getD i 0) (hj : j ≤ 63) (hk : ownerN (C.map R.idOf) (startN (R.idOf (C.getD i 0)) j) = (k : Int)) (hkn : k < n) :
    Calls Tryz.prog 37 #[.agg #[.slice (some ⟨g, 0, none⟩) n c, .slice b n d], .int .i64 (C.getD i 0), .int .i64 j] w fun e w' => e = .returned (.int .i64 (C.getD k 0)) ∧ Below w.heap.size w w' := by
  obtain ⟨W1, hW1⟩ : ∃ W1, W1 = w.alloc (.cells #[.slice (some ⟨g, 0, none⟩) n c, .slice b n d] 75) := ⟨_, rfl⟩
  have b1 : Below w.heap.size w W1 := by rw [hW1]; exact below_one _ _
  have x0 : W1.cell? ⟨w.heap.size, 0, none⟩ = some (.slice (some ⟨g, 0, none⟩) n c) := by rw [hW1]; simp
  have x1 : W1.cell? ⟨w.heap.size, 1, none⟩ = some (.slice b n d) := by rw [hW1]; simp
  have xz := cell_block x0
  have hp1 := hp.below (Nat.le_refl _) b1
  have hm1 := hm.below (Nat.le_refl _) b1
  obtain ⟨pb, po, hpb, hpl, _, hpc⟩ := hp1.one (v := Value.int .u64) (fun _ => rfl) (i := i) hi
  subst hpb
  have hid : (C.map R.idOf).getD i 0 = R.idOf (C.getD i 0) := by
    have : i < C.length := by rw [hm.1]; exact hi
    simp [List.getD, this]
  rw [hid] at hpc
  obtain ⟨x, hx⟩ : ∃ x, C.getD i 0 = x := ⟨_, rfl⟩
  rw [hx] at hpc hk
  have IDX : Hid _ := index_i (some ⟨g, 0, none⟩) n c C x i W1 hm1 hi hx (fun j hj => by rw [← hx]; exact hmin j hj)
  have OWN : Hid (∀ W, Below W1.heap.size W1 W → _) := fun W hW => cowner_r R C g c d n k (some ⟨pb, po, none⟩) _ W (hm1.below (Nat.le_refl _) hW) (hp1.below (Nat.le_refl _) hW) h4 hk hkn
  have HB : Hid (Below w.heap.size w W1) := b1
  have hi0 : ¬ (i : Int) < 0 := by omega
  have hj0 : ¬ (j : Int) < 0 := by omega
  have hj63 : ¬ 63 < (j : Int) := by omega
  have hdi : decide ((i : Int) < 0) = false := by simp
  have hdj : decide ((j : Int) < 0) = false := by simp
  have hdj2 : decide (63 < (j : Int)) = false := by simp; omega
  rw [hx]
  clear hp hm b1 hp1 hm1 hk hid hmin hx
  go_enter Tryz.func37, Tryz.ntmps37
  go_upto_region 1 with fail
  rw [← hW1]
  clear hW1
  go_wp2_with fail
  refine Calls.mono IDX.out ?_
  rintro e w' ⟨rfl, hw'⟩
  subst w'
  go_upto_region 4 with fail
  go_region_with (first
    | (go_at_call 47; refine (start_any _ _ _).mono ?_; rintro e w' ⟨rfl, rfl⟩)
    | (go_at_call 35; refine Calls.mono (OWN.out _ ⟨rfl, rfl, rfl, Nat.le_refl _, fun _ _ => rfl⟩) ?_; rintro e w5 ⟨rfl, b5⟩))
  all_goals
    go_wp2
    go_ret
    exact ⟨rfl, HB.out.trans ((show Below W1.heap.size W1 w5 from ⟨b5.os, b5.tape, b5.output, b5.size, b5.block⟩).mono HB.out.size)⟩
theorem livA' : ringA.liveTo 32 = [0, 1, 2, 3] := by kernel_rfl
theorem cirA {C : List Int} (h : Cir ringA C) : C = [0, 1, 2, 3] := by
  have hl : C.length = 4 := by rw [h.len]; show (ringA.liveTo 32).length = 4; rw [livA']; rfl
  have hid : ∀ x, ringA.lives x = true → ringA.idOf x = 10 * (x + 1) ∧ 0 ≤ x ∧ x < 4 := fun x hx => by
    have hr := (ringA_lives x).1 hx
    refine ⟨?_, hr⟩
    rcases (show x = 0 ∨ x = 1 ∨ x = 2 ∨ x = 3 by omega) with e | e | e | e <;> subst e <;> rfl
  match C, hl, h with
  | [a, b, c, d], _, h =>
    have ha := hid a ((h.mem a).1 (by simp))
    have hb := hid b ((h.mem b).1 (by simp))
    have hc := hid c ((h.mem c).1 (by simp))
    have hd := hid d ((h.mem d).1 (by simp))
    have hr := h.rise
    simp at hr
    have e0 : a = 0 := by omega
    have e1 : b = 1 := by omega
    have e2 : c = 2 := by omega
    have e3 : d = 3 := by omega
    rw [e0, e1, e2, e3]
theorem isA : isB ringA [0, 1, 2, 3] 4 = true := by kernel_rfl
theorem ow25 : ownerN ([0, 1, 2, 3].map ringA.idOf) 25 = ((2 : Nat) : Int) := by kernel_rfl
theorem ow41 : ownerN ([0, 1, 2, 3].map ringA.idOf) 41 = ((0 : Nat) : Int) := by kernel_rfl
theorem fi04 : ownerN ([0, 1, 2, 3].map ringA.idOf) (startN (ringA.idOf ([0, 1, 2, 3].getD 0 0)) ((4 : Nat) : Int)) = ((2 : Nat) : Int) := by kernel_rfl
theorem lenA : ringA.live.length = 4 := by show (ringA.liveTo 32).length = 4; rw [livA']; rfl
end Go.Proofs.YtgiiadjocfnhlabGreatDoor
