/- Ways: whom one asks next, and how near one comes. No program in sight. -/
import Derived.Test.YtgiiadjocfnhlabGreatDoorIdOwn
import Derived.Test.YtgiiadjocfnhlabGreatDoorJoinPrInts
import Derived.Test.YtgiiadjocfnhlabGreatDoorFam
import Derived.Deep.CutBlock
import Derived.Deep.DeepCutAuto
import Derived.Test.YtgiiadjocfnhlabGreatDoorShelfB
import Derived.Test.YtgiiadjocfnhlabGreatDoorJoinPeSame
set_option linter.unnecessarySimpa false
set_option linter.unnecessarySimpa false
namespace Go.Proofs.YtgiiadjocfnhlabGreatDoor
set_option linter.unusedVariables false

/-- Does a member think that a place is its own? -/
def Rg.owns (R : Rg) (n x : Int) : Bool := (R.know n).pred != -1 && (R.lives (R.know n).pred && inB x (R.idOf (R.know n).pred) (R.know n).id)
def Rg.closer (R : Rg) (frm x best q : Int) : Bool := R.lives q && (withinB (R.idOf q) (R.idOf best) frm && withinB (R.idOf q) (R.idOf best) x)
def Rg.nearst (R : Rg) (frm x : Int) : Int → List Int → Int
  | best, [] => best
  | best, q :: l => R.nearst frm x (if R.closer frm x best q then q else best) l
/-- Who is asked next. -/
def Rg.nextTo (R : Rg) (G : Int → List Int) (x n : Int) : Int :=
  if x == (R.know n).id || R.owns n x then n
  else if inB x (R.know n).id (R.idOf (R.head n)) then R.head n
  else R.nearst (R.know n).id x (R.nearst (R.know n).id x (R.head n) (R.know n).succ) (G n)
def Rg.hopTo (R : Rg) (G : Int → List Int) (x n : Int) : Nat → Int
  | 0 => n
  | k + 1 => R.nextTo G x (R.hopTo G x n k)
/-- The way ends behind k steps. -/
def Rg.stops (R : Rg) (G : Int → List Int) (x n : Int) (k : Nat) : Prop := (∀ j, j < k → R.hopTo G x n (j + 1) ≠ R.hopTo G x n j) ∧ R.hopTo G x n (k + 1) = R.hopTo G x n k
def Rg.way (R : Rg) (G : Int → List Int) (x n : Int) (k : Nat) : List Int := (List.range k).map (R.hopTo G x n)
theorem way_succ (R : Rg) (G : Int → List Int) (x n : Int) (k : Nat) : R.way G x n (k + 1) = R.way G x n k ++ [R.hopTo G x n k] := by simp [Rg.way, List.range_succ]
theorem way_getD (R : Rg) (G : Int → List Int) (x n : Int) {k i : Nat} (hi : i < k) : (R.way G x n k).getD i 0 = R.hopTo G x n i := by simp [Rg.way, List.getD, hi]
theorem way_len (R : Rg) (G : Int → List Int) (x n : Int) (k : Nat) : (R.way G x n k).length = k := by simp [Rg.way]
theorem near_drop (R : Rg) (frm x b : Int) (l : List Int) (k : Nat) (hk : k < l.length) : R.nearst frm x b (l.drop k) = R.nearst frm x (if R.closer frm x b (l.getD k 0) then l.getD k 0 else b) (l.drop (k + 1)) := by
  rw [List.drop_eq_getElem_cons hk]
  have e : l.getD k 0 = l[k] := by simp [List.getD, hk]
  rw [e]; rfl
theorem hop_add (R : Rg) (G : Int → List Int) (x n : Int) (i k : Nat) : R.hopTo G x (R.hopTo G x n i) k = R.hopTo G x n (i + k) := by
  induction k with
  | zero => rfl
  | succ k ih => show R.nextTo G x _ = R.nextTo G x _; rw [ih]; rfl
theorem stops_uniq {R : Rg} {G : Int → List Int} {x n : Int} {k j : Nat} (h : R.stops G x n k) (h' : R.stops G x n j) : k = j := by
  rcases Nat.lt_trichotomy k j with q | q | q
  · exact absurd h.2 (h'.1 k q)
  · exact q
  · exact absurd h'.2 (h.1 j q)
theorem stops_rest {R : Rg} {G : Int → List Int} {x n : Int} {k i : Nat} (h : R.stops G x n k) (hi : i ≤ k) : R.stops G x (R.hopTo G x n i) (k - i) := by
  refine ⟨fun j hj => ?_, ?_⟩
  · rw [hop_add, hop_add]; exact h.1 (i + j) (by omega)
  · rw [hop_add, hop_add, show i + (k - i) = k by omega, show i + (k - i + 1) = k + 1 by omega]; exact h.2
section
variable {R : Rg} (h : Inv R) {G : Int → List Int} {x : Int} (hx : Plc x)
include h hx
theorem near_inv {frm : Int} (hf : Plc frm) : ∀ (l : List Int) (b : Int), R.lives b = true → dist (R.idOf b) x ≠ 0 → dist (R.idOf b) frm ≠ 0 →
    R.lives (R.nearst frm x b l) = true ∧ dist (R.idOf (R.nearst frm x b l)) x ≤ dist (R.idOf b) x ∧ dist (R.idOf (R.nearst frm x b l)) x ≠ 0 ∧ dist (R.idOf (R.nearst frm x b l)) frm ≠ 0 := by
  intro l
  induction l with
  | nil => intro b h1 h2 h3; exact ⟨h1, Int.le_refl _, h2, h3⟩
  | cons q l ih =>
    intro b h1 h2 h3
    unfold Rg.nearst
    cases hc : R.closer frm x b q
    · exact ih b h1 h2 h3
    · unfold Rg.closer at hc
      simp only [Bool.and_eq_true] at hc
      obtain ⟨c1, c2, c3⟩ := hc
      have hb := h.u b
      have hq := h.u q
      have w2 := (within_iff hq hb hf).1 c2
      have w3 := (within_iff hq hb hx).1 c3
      have d3 : dist (R.idOf b) (R.idOf q) < dist (R.idOf b) x := w3.2.resolve_left h2
      have d2 : dist (R.idOf b) (R.idOf q) < dist (R.idOf b) frm := w2.2.resolve_left h3
      have t1 : dist (R.idOf q) x < dist (R.idOf b) x := by unfold Plc at *; unfold dist at *; omega
      have t2 : dist (R.idOf q) x ≠ 0 := by unfold Plc at *; unfold dist at *; omega
      have t3 : dist (R.idOf q) frm ≠ 0 := by unfold Plc at *; unfold dist at *; omega
      have := ih q c1 t2 t3
      exact ⟨this.1, by have := this.2.1; simp only [if_true]; omega, this.2.2⟩
/-- Who is asked next lives; it is oneself just where the place is one's own; else it lies nearer, but it be the head. -/
theorem next_spec {n : Int} (hn : R.lives n = true) : R.lives (R.nextTo G x n) = true ∧ (R.nextTo G x n = n ↔ (x = R.idOf n ∨ R.owns n x = true)) ∧
    (R.nextTo G x n ≠ n → (R.nextTo G x n = R.head n ∧ inB x (R.idOf n) (R.idOf (R.head n)) = true) ∨ dist (R.idOf (R.nextTo G x n)) x < dist (R.idOf n) x) := by
  have hid := h.id n hn
  have hh := h.head hn
  have hne : R.head n ≠ n := h.apart hh.2
  have un := h.u n
  have uh := h.u (R.head n)
  have hnh : R.idOf n ≠ R.idOf (R.head n) := fun e => hne (h.inj _ _ hh.1 hn e.symm)
  unfold Rg.nextTo
  rw [hid]
  by_cases c1 : x = R.idOf n ∨ R.owns n x = true
  · have e : (x == R.idOf n || R.owns n x) = true := by
      rcases c1 with q | q
      · simp [q]
      · simp [q]
    rw [e]
    simp only [if_true]
    exact ⟨hn, ⟨fun _ => c1, fun _ => trivial⟩, fun q => absurd rfl q⟩
  · have e : (x == R.idOf n || R.owns n x) = false := by
      have q1 : ¬ x = R.idOf n := fun q => c1 (.inl q)
      have q2 : ¬ R.owns n x = true := fun q => c1 (.inr q)
      simp [q1, q2]
    have q1 : x ≠ R.idOf n := fun q => c1 (.inl q)
    rw [e]
    simp only [Bool.false_eq_true, if_false]
    cases c2 : inB x (R.idOf n) (R.idOf (R.head n))
    · simp only [Bool.false_eq_true, if_false]
      rw [in_of x _ _ q1 hnh] at c2
      have d : dist (R.idOf n) (R.idOf (R.head n)) < dist (R.idOf n) x := by simpa using c2
      have d1 : dist (R.idOf (R.head n)) x < dist (R.idOf n) x := by unfold Plc at *; unfold dist at *; omega
      have d2 : dist (R.idOf (R.head n)) x ≠ 0 := by unfold Plc at *; unfold dist at *; omega
      have d3 : dist (R.idOf (R.head n)) (R.idOf n) ≠ 0 := by unfold Plc at *; unfold dist at *; omega
      have s1 := near_inv h hx un (R.know n).succ (R.head n) hh.1 d2 d3
      have s2 := near_inv h hx un (G n) _ s1.1 s1.2.2.1 s1.2.2.2
      generalize R.nearst (R.idOf n) x (R.nearst (R.idOf n) x (R.head n) (R.know n).succ) (G n) = m at *
      have hm : m ≠ n := fun q => s2.2.2.2 (by rw [q]; exact dist_self _)
      exact ⟨s2.1, ⟨fun q => absurd q hm, fun q => absurd q c1⟩, fun _ => .inr (by have := s1.2.1; have := s2.2.1; omega)⟩
    · simp only [if_true]
      exact ⟨hh.1, ⟨fun q => absurd q hne, fun q => absurd q c1⟩, fun _ => .inl ⟨trivial, trivial⟩⟩
theorem hop_lives {n : Int} (hn : R.lives n = true) (k : Nat) : R.lives (R.hopTo G x n k) = true := by
  induction k with
  | zero => exact hn
  | succ k ih => exact (next_spec h hx ih).1
section
variable (hd : Hds R)
include hd
/-- Where heads and Preds are right each step but the last comes nearer. -/
theorem step_near {n : Int} (hn : R.lives n = true) (h1 : R.nextTo G x n ≠ n) (h2 : R.nextTo G x (R.nextTo G x n) ≠ R.nextTo G x n) : dist (R.idOf (R.nextTo G x n)) x < dist (R.idOf n) x := by
  have s := next_spec (G := G) h hx hn
  rcases s.2.2 h1 with ⟨e, hi⟩ | q
  · obtain ⟨t, ha⟩ := h.adj_exists hn
    obtain ⟨g1, g2⟩ := hd n t ha
    have hlt : R.lives (R.head n) = true := by rw [g1]; exact ha.2.1
    exfalso
    apply h2
    rw [e]
    refine ((next_spec h hx hlt).2.1).2 (.inr ?_)
    unfold Rg.owns
    rw [g1, g2, h.id t ha.2.1]
    have := h.rng n hn
    have e1 : (n != -1) = true := by simp; omega
    rw [g1] at hi
    rw [e1, hn, hi]; rfl
  · exact q
theorem hop_near {n : Int} (hn : R.lives n = true) {k : Nat} (hk : ∀ j, j < k → R.hopTo G x n (j + 1) ≠ R.hopTo G x n j) {i : Nat} (hi : i + 1 < k) : dist (R.idOf (R.hopTo G x n (i + 1))) x < dist (R.idOf (R.hopTo G x n i)) x :=
  step_near h hx hd (hop_lives h hx hn i) (hk i (by omega)) (hk (i + 1) hi)
theorem hop_dec {n : Int} (hn : R.lives n = true) {k : Nat} (hk : ∀ j, j < k → R.hopTo G x n (j + 1) ≠ R.hopTo G x n j) (i : Nat) : ∀ d, i + d + 1 < k → dist (R.idOf (R.hopTo G x n (i + d + 1))) x < dist (R.idOf (R.hopTo G x n i)) x := by
  intro d
  induction d with
  | zero => intro hq; exact hop_near h hx hd hn hk hq
  | succ d ih =>
    intro hq
    have a1 := ih (by omega)
    have a2 := hop_near h hx hd hn hk (i := i + d + 1) (by omega)
    rw [show i + (d + 1) + 1 = i + d + 1 + 1 by omega]
    omega
theorem hop_ne {n : Int} (hn : R.lives n = true) {k : Nat} (hk : ∀ j, j < k → R.hopTo G x n (j + 1) ≠ R.hopTo G x n j) {i j : Nat} (hij : i < j) (hj : j ≤ k) : R.hopTo G x n i ≠ R.hopTo G x n j := fun e => by
  by_cases q : j < k
  · have := hop_dec h hx hd hn hk i (j - i - 1) (by omega)
    rw [show i + (j - i - 1) + 1 = j by omega, e] at this
    omega
  · obtain rfl : j = k := by omega
    have h1 : R.nextTo G x (R.hopTo G x n j) ≠ R.hopTo G x n j := by rw [← e]; exact hk i hij
    have hk' : ∀ m, m < j + 1 → R.hopTo G x n (m + 1) ≠ R.hopTo G x n m := fun m hm => by
      by_cases qm : m < j
      · exact hk m qm
      · obtain rfl : m = j := by omega
        exact h1
    have := hop_dec h hx hd hn hk' i (j - i - 1) (by omega)
    rw [show i + (j - i - 1) + 1 = j by omega, e] at this
    omega
theorem way_nodup {n : Int} (hn : R.lives n = true) {k : Nat} (hk : ∀ j, j < k → R.hopTo G x n (j + 1) ≠ R.hopTo G x n j) : (R.way G x n (k + 1)).Nodup := by
  refine List.pairwise_iff_getElem.2 (fun i j hi hj hij => ?_)
  have hj' : j ≤ k := by simp [Rg.way] at hj; omega
  simp only [Rg.way, List.getElem_map, List.getElem_range]
  exact hop_ne h hx hd hn hk hij hj'
theorem way_few {n : Int} (hn : R.lives n = true) {k : Nat} (hk : ∀ j, j < k → R.hopTo G x n (j + 1) ≠ R.hopTo G x n j) : k + 1 ≤ R.live.length := by
  have := nodup_sub (R.way G x n (k + 1)) R.live (way_nodup h hx hd hn hk) (fun y hy => by
    obtain ⟨j, _, rfl⟩ := List.mem_map.1 hy
    exact h.in_live (hop_lives h hx hn j))
  rwa [way_len] at this
/-- Each way ends. -/
theorem way_ends {n : Int} (hn : R.lives n = true) : ∃ k, k < R.live.length ∧ R.stops G x n k := by
  apply Classical.byContradiction
  intro hno
  have all : ∀ k, k ≤ R.live.length → ∀ j, j < k → R.hopTo G x n (j + 1) ≠ R.hopTo G x n j := by
    intro k
    induction k with
    | zero => intro _ j hj; exact absurd hj (Nat.not_lt_zero _)
    | succ k ih =>
      intro hk j hj e
      by_cases q : j < k
      · exact ih (by omega) j q e
      · obtain rfl : j = k := by omega
        exact hno ⟨j, by omega, ih (by omega), e⟩
  have := way_few h hx hd hn (all _ (Nat.le_refl _))
  omega
end
end
/-- Where all is as it should be a way ends at the owner. -/
theorem stop_owner {R : Rg} {C : List Int} (h : Rgt 3 R) (c : Cir R C) {G : Int → List Int} {x n : Int} (hx : Plc x) (hn : R.lives n = true) (hs : R.nextTo G x n = n) : ∃ k : Nat, k < C.length ∧ ownerN (C.map R.idOf) x = k ∧ C.getD k 0 = n := by
  have hi := h.1
  obtain ⟨k, hk, e⟩ := c.at_ hn
  have hg : ∀ j, j < C.length → (C.map R.idOf).getD j 0 = R.idOf (C.getD j 0) := fun j hj => by simp [List.getD, hj]
  have hr : (C.map R.idOf).Pairwise (· < ·) := List.pairwise_map.2 c.rise
  have hu : ∀ j : Nat, Plc ((C.map R.idOf).getD j 0) := fun j => by
    by_cases q : j < C.length
    · rw [hg j q]; exact hi.u _
    · have e : (C.map R.idOf).getD j 0 = 0 := by simp [List.getD, List.getElem?_eq_none (by simp; omega : (C.map R.idOf).length ≤ j)]
      rw [e]; unfold Plc; omega
  have h4 := c.four hi
  have hkm : k < (C.map R.idOf).length := by simpa using hk
  refine ⟨k, hk, ?_, e⟩
  rcases ((next_spec hi hx hn).2.1).1 hs with q | q
  · have := owner_at hr hkm
    rw [hg k hk, e] at this
    rw [q]; exact this
  · have hm : (k + C.length - 1) % C.length < C.length := Nat.mod_lt _ (by omega)
    have hkn := h.know_eq c hk
    rw [e] at hkn
    unfold Rg.owns at q
    simp only [Bool.and_eq_true] at q
    obtain ⟨_, _, q3⟩ := q
    rw [hkn] at q3
    simp only [idPe] at q3
    rw [e] at q3
    refine (owner_iff hr hu (by simpa using (by omega : 2 ≤ C.length)) hkm hx).2 ?_
    simp only [List.length_map]
    rw [hg _ hm, hg k hk, e]
    have hne : R.idOf (C.getD ((k + C.length - 1) % C.length) 0) ≠ R.idOf n := fun e2 => by
      have := hi.inj _ _ (c.lv hm) hn e2
      rw [← e] at this
      have := c.inj hm hk this
      by_cases z : k = 0
      · subst z
        rw [Nat.zero_add, Nat.mod_eq_of_lt (by omega)] at this; omega
      · have e3 : k + C.length - 1 = (k - 1) + C.length := by omega
        rw [e3, Nat.add_mod_right, Nat.mod_eq_of_lt (by omega)] at this; omega
    have u1 := hi.u (C.getD ((k + C.length - 1) % C.length) 0)
    have u2 := hi.u n
    generalize R.idOf (C.getD ((k + C.length - 1) % C.length) 0) = y at *
    generalize R.idOf n = z at *
    unfold inB at q3
    have hyz : (y == z) = false := by simpa using hne
    rw [hyz] at q3
    simp only [Bool.false_or, Bool.and_eq_true, decide_eq_true_eq, bne_iff_ne] at q3
    unfold dist at q3
    unfold Plc at *
    omega
end Go.Proofs.YtgiiadjocfnhlabGreatDoor

/- Fingers in memory: the ring's pointer and a map of lists, behind a pointer. -/
namespace Go.Proofs.YtgiiadjocfnhlabGreatDoor
open Go.ChangeShapes Go.WideShapes Go.ChangeAt Go.RowKit Go.Deep
set_option linter.unusedVariables false

/-- The list that a key has; none: an empty one. -/
def LsOk (w : World) (l : List Int) : Option Value → Prop
  | none => l = []
  | some v => ∃ a len cap, v = .slice a len cap ∧ InIn w a len l ∧ (a = none → len = 0) ∧ len ≤ cap ∧ cap ≤ 9223372036854775807
structure FgAt (w : World) (f r gm : Nat) (G : Int → List Int) : Prop where
  box : w.heap[f]? = some (.cells #[.pointer (some ⟨r, 0, none⟩), .map (some gm)] 95 (0, 0))
  map : ∃ m, MpAt w gm m ∧ ∀ k, LsOk w (G k) (look m k)
theorem LsOk.below {w w' : World} {l : List Int} {v : Option Value} (h : LsOk w l v) (hb : Below w.heap.size w w') : LsOk w' l v := by
  cases v with
  | none => exact h
  | some v => obtain ⟨a, len, cap, e, h1, h2⟩ := h; exact ⟨a, len, cap, e, h1.below (Nat.le_refl _) hb, h2⟩
theorem LsOk.kp {w w' : World} {l : List Int} {v : Option Value} {gp gk : Nat} (h : LsOk w l v) (hk : Kp w w' gp gk) {mp mk : List (Int × Value)} (h1 : MpAt w gp mp) (h2 : MpAt w gk mk) : LsOk w' l v := by
  cases v with
  | none => exact h
  | some v => obtain ⟨a, len, cap, e, q1, q2⟩ := h; exact ⟨a, len, cap, e, InRow.kp q1 hk h1 h2, q2⟩
theorem FgAt.lt {w : World} {f r gm : Nat} {G : Int → List Int} (h : FgAt w f r gm G) : f < w.heap.size ∧ gm < w.heap.size := by
  obtain ⟨m, hm, _⟩ := h.map
  refine ⟨?_, hm.lt⟩
  rcases Nat.lt_or_ge f w.heap.size with q | q
  · exact q
  · have := h.box; rw [Array.getElem?_eq_none q] at this; cases this
theorem FgAt.ne {w : World} {f r gm : Nat} {G : Int → List Int} (h : FgAt w f r gm G) : f ≠ gm := fun e => by
  obtain ⟨m, ⟨_, es, c, hp, _⟩, _⟩ := h.map
  have := h.box; rw [e, hp] at this; cases this
theorem FgAt.below {w w' : World} {f r gm : Nat} {G : Int → List Int} (h : FgAt w f r gm G) (hb : Below w.heap.size w w') : FgAt w' f r gm G := by
  have hl := h.lt
  obtain ⟨m, hm, hg⟩ := h.map
  exact ⟨(hb.block f hl.1).trans h.box, m, hm.of_block (hb.block gm hl.2), fun k => (hg k).below hb⟩
theorem FgAt.c0 {w : World} {f r gm : Nat} {G : Int → List Int} (h : FgAt w f r gm G) : w.cell? ⟨f, 0, none⟩ = some (.pointer (some ⟨r, 0, none⟩)) := by simp [World.cell?, h.box]
theorem FgAt.c1 {w : World} {f r gm : Nat} {G : Int → List Int} (h : FgAt w f r gm G) : w.cell? ⟨f, 1, none⟩ = some (.map (some gm)) := by simp [World.cell?, h.box]
theorem zero_ints (w : World) : (zeroValue 24).run Tryz.prog w = .ok (.slice none 0 0) w := by kernel_rfl
/-- A look-up, in whatever grew out of it. -/
theorem FgAt.ask {w : World} {f r gm : Nat} {G : Int → List Int} (h : FgAt w f r gm G) (n : Int) :
    ∃ a len cap, InIn w a len (G n) ∧ (a = none → len = 0) ∧ len ≤ cap ∧ cap ≤ 9223372036854775807 ∧ ∀ w', Below w.heap.size w w' → (Instr.lookup 93 (.map (some gm)) (.int .i64 n) false).run Tryz.prog w' = .ok (.slice a len cap) w' := by
  have hlt := h.lt
  obtain ⟨m, hm, hg⟩ := h.map
  have q := hg n
  cases hl : look m n with
  | none =>
    rw [hl] at q
    refine ⟨none, 0, 0, by rw [show G n = [] from q]; exact ⟨rfl, by omega, .inl rfl⟩, fun _ => rfl, by omega, by omega, fun w' hb => (run_look_none (hm.of_block (hb.block gm hlt.2)) Tryz.underlying93 Tryz.underlying3 (zero_ints w') hl).2⟩
  | some v =>
    rw [hl] at q
    obtain ⟨a, len, cap, rfl, h1, h2, h3, h4⟩ := q
    exact ⟨a, len, cap, h1, h2, h3, h4, fun w' hb => (run_look_some (hm.of_block (hb.block gm hlt.2)) Tryz.underlying93 Tryz.underlying3 hl).2⟩
/-- A store. -/
theorem FgAt.put {w : World} {f r gm : Nat} {G : Int → List Int} (h : FgAt w f r gm G) (n : Int) {a : Option Addr} {len cap : Nat} {l : List Int} (hl : InIn w a len l) (hn : a = none → len = 0) (hc : len ≤ cap) (hm : cap ≤ 9223372036854775807) :
    ∃ w', (Instr.mapUpdate 93 (.map (some gm)) (.int .i64 n) (.slice a len cap)).run Tryz.prog w = .ok () w' ∧ FgAt w' f r gm (upd G n l) ∧ Kp w w' gm gm := by
  have hne := h.ne
  have hlt := h.lt
  obtain ⟨m, hmm, hg⟩ := h.map
  obtain ⟨o, h1, h2⟩ := run_put (P := Tryz.prog) hmm Tryz.underlying93 Tryz.underlying3 n (.slice a len cap)
  have kp := Kp.setP w gm gm o
  refine ⟨_, h1, ⟨(kp.block f hlt.1 hne hne).trans h.box, _, h2, fun k => ?_⟩, kp⟩
  rw [look_put]
  simp only [upd]
  split
  · exact ⟨a, len, cap, rfl, InRow.kp hl kp hmm hmm, hn, hc, hm⟩
  · exact (hg k).kp kp hmm hmm
/-- The ring's maps are written beside it. -/
theorem FgAt.kp {w w' : World} {f r gm gp gk : Nat} {G : Int → List Int} {R : Rg} (h : FgAt w f r gm G) (hr : RingAt w r gp gk R) (k : Kp w w' gp gk) (n1 : gp ≠ gm) (n2 : gk ≠ gm) : FgAt w' f r gm G := by
  have hlt := h.lt
  obtain ⟨m, hm, hg⟩ := h.map
  obtain ⟨mp, hp, _⟩ := hr.places
  obtain ⟨mk, hk, _⟩ := hr.known
  have nf : f ≠ gp ∧ f ≠ gk := by
    obtain ⟨_, es, c, hp, _⟩ := hp
    obtain ⟨_, es', c', hk, _⟩ := hk
    refine ⟨fun e => ?_, fun e => ?_⟩
    · have := h.box; rw [e, hp] at this; cases this
    · have := h.box; rw [e, hk] at this; cases this
  exact ⟨(k.block f hlt.1 nf.1 nf.2).trans h.box, m, hm.of_block (k.block gm hlt.2 (Ne.symm n1) (Ne.symm n2)), fun x => (hg x).kp k hp hk⟩
/-- Its map is written beside the ring. -/
theorem RingAt.kg {w w' : World} {f r gm gp gk : Nat} {G : Int → List Int} {R : Rg} (h : RingAt w r gp gk R) (hf : FgAt w f r gm G) (k : Kp w w' gm gm) (n1 : gp ≠ gm) (n2 : gk ≠ gm) : RingAt w' r gp gk R := by
  obtain ⟨mp, hp, hp'⟩ := h.places
  obtain ⟨mk, hk, hk'⟩ := h.known
  obtain ⟨m, hm, _⟩ := hf.map
  have hl := h.lt
  have nr : r ≠ gm := fun e => by
    obtain ⟨_, es, c, hp, _⟩ := hm
    have := h.box; rw [e, hp] at this; cases this
  exact ⟨(k.block r hl.1 nr nr).trans h.box, h.ne, ⟨mp, hp.of_block (k.block gp hl.2.1 n1 n1), hp'⟩, ⟨mk, hk.of_block (k.block gk hl.2.2 n2 n2), fun x => (hk' x).kp k hm hm⟩, h.ids, fun b hb => Nat.lt_of_lt_of_le (h.old b hb) k.size⟩
/-- A ring and fingers, both ours. -/
structure Rt (w wr : World) (r gp gk f gm : Nat) (R : Rg) (G : Int → List Int) : Prop where
  rn : Rn w wr r gp gk R
  fg : FgAt wr f r gm G
  n1 : gp ≠ gm
  n2 : gk ≠ gm
  gm : w.heap.size ≤ gm
theorem Rt.below {w wr w' : World} {r gp gk f gm : Nat} {R : Rg} {G : Int → List Int} (h : Rt w wr r gp gk f gm R G) (hb : Below wr.heap.size wr w') : Rt w w' r gp gk f gm R G := ⟨h.rn.below hb, h.fg.below hb, h.n1, h.n2, h.gm⟩
theorem Rt.kg {w wr w' : World} {r gp gk f gm : Nat} {R : Rg} {G G' : Int → List Int} (h : Rt w wr r gp gk f gm R G) (hf : FgAt w' f r gm G') (k : Kp wr w' gm gm) : Rt w w' r gp gk f gm R G' :=
  ⟨⟨h.rn.ring.kg h.fg k h.n1 h.n2, h.rn.inv, h.rn.bel.trans (k.below h.gm h.gm h.rn.bel.size), h.rn.gp, h.rn.gk⟩, hf, h.n1, h.n2, h.gm⟩
theorem Rt.step {w wr w' : World} {r gp gk f gm : Nat} {R R' : Rg} {G : Int → List Int} (h : Rt w wr r gp gk f gm R G) (hr : RingAt w' r gp gk R') (hi : Inv R') (k : Kp wr w' gp gk) : Rt w w' r gp gk f gm R' G :=
  ⟨h.rn.step hr hi k, h.fg.kp h.rn.ring k h.n1 h.n2, h.n1, h.n2, h.gm⟩
end Go.Proofs.YtgiiadjocfnhlabGreatDoor

/- route.Owns, nearest, Next. -/
namespace Go.Proofs.YtgiiadjocfnhlabGreatDoor
open Go.ChangeShapes Go.WideShapes Go.ChangeAt Go.RowKit Go.Deep
set_option linter.unusedVariables false

theorem fnew_r (w wr : World) (r gp gk : Nat) (R : Rg) (h : Rn w wr r gp gk R) :
    Calls Tryz.prog 11 #[.pointer (some ⟨r, 0, none⟩)] wr fun e w' => ∃ f gm, e = .returned (.pointer (some ⟨f, 0, none⟩)) ∧ Rt w w' r gp gk f gm R (fun _ => []) := by
  have hz : ∀ k, LsOk ((wr.alloc (.map #[] 0)).alloc (.cells #[.pointer (some ⟨r, 0, none⟩), .map (some wr.heap.size)] 95)) [] (look [] k) := fun k => rfl
  have hb : Below wr.heap.size wr ((wr.alloc (.map #[] 0)).alloc (.cells #[.pointer (some ⟨r, 0, none⟩), .map (some wr.heap.size)] 95)) := (below_one _ _).trans ((below_one _ _).mono (by simp))
  have hl := h.ring.lt
  have HR : Hid (Rt w ((wr.alloc (.map #[] 0)).alloc (.cells #[.pointer (some ⟨r, 0, none⟩), .map (some wr.heap.size)] 95)) r gp gk (wr.heap.size + 1) wr.heap.size R (fun _ => [])) := by
    refine ⟨h.below hb, ⟨?_, [], ?_, hz⟩, by omega, by omega, h.bel.size⟩
    · simpa using heap_alloc_new (wr.alloc (.map #[] 0)) (.cells #[.pointer (some ⟨r, 0, none⟩), .map (some wr.heap.size)] 95)
    · exact (MpAt.made wr).of_block (Below.heap_alloc _ _ _ (by simp))
  clear hz hb hl h
  have hmm := @run_makeMap Tryz.prog
  go_enter Tryz.func11, Tryz.ntmps11
  go_wp2
  go_ret
  exact ⟨wr.heap.size + 1, wr.heap.size, by simp, HR.out⟩

set_option maxRecDepth 100000 in
set_option maxHeartbeats 2000000 in
theorem owns_r (r gp gk : Nat) (R : Rg) (id pred x : Int) (a : Option Addr) (len cap : Nat) (w : World) (h : RingAt w r gp gk R) :
    Calls Tryz.prog 26 #[.agg #[.int .u64 id, .int .i64 pred, .slice a len cap], .int .u64 x, .iface 27 (.pointer (some ⟨r, 0, none⟩))] w fun e w' => e = .returned (.bool (pred != -1 && (R.lives pred && inB x (R.idOf pred) id))) ∧ Below w.heap.size w w' := by
  have m1 := fun a w => mr_lives a w
  have m2 := fun a w => mr_id a w
  obtain ⟨W1, hW1⟩ : ∃ W1, W1 = w.alloc (.cells #[.int .u64 id, .int .i64 pred, .slice a len cap] 63) := ⟨_, rfl⟩
  have b1 : Below w.heap.size w W1 := by rw [hW1]; exact below_one _ _
  have e0 : W1.heap[w.heap.size]? = some (.cells #[.int .u64 id, .int .i64 pred, .slice a len cap] 63 (0, 0)) := by rw [hW1]; exact heap_alloc_new w _
  have x0 : W1.cell? ⟨w.heap.size, 0, none⟩ = some (.int .u64 id) := by simp [World.cell?, e0]
  have x1 : W1.cell? ⟨w.heap.size, 1, none⟩ = some (.int .i64 pred) := by simp [World.cell?, e0]
  have xl := cell_block x0
  have HB : Hid (Below w.heap.size w W1) := b1
  obtain ⟨ι, F, _, hF0, hFb, hFc⟩ := grown_fam W1
  have f0 : ∀ i, (F i).cell? ⟨w.heap.size, 0, none⟩ = _ := fun i => cell_grown x0 (hFb i)
  have f1 : ∀ i, (F i).cell? ⟨w.heap.size, 1, none⟩ = _ := fun i => cell_grown x1 (hFb i)
  have HF : Hid ((∃ i, { W1 with drawn := W1.drawn + 1 } = F i) ∧ (∀ i, Below W1.heap.size W1 (F i)) ∧ (∀ i W, Below W1.heap.size (F i) W → ∃ j, W = F j)) := ⟨hF0, hFb, hFc⟩
  have HR : Hid (∀ i, RingAt (F i) r gp gk R) := fun i => (h.below b1).below (hFb i)
  clear b1 e0 x0 x1 hF0 hFb hFc h
  by_cases q : pred = -1
  · subst q
    go_enter Tryz.func26, Tryz.ntmps26
    go_upto_region 1 with fail
    rw [← hW1]
    clear hW1
    refine wp_region_fam F HF.out.1 (by kernel_rfl) (by kernel_rfl) ?_
    repeat (go_big_quiet_step (fail))
    refine wpQuiet_nil ?_
    rintro _ ⟨i, rfl⟩
    have HB4 := HF.out.2.1 i
    go_wp2
    go_ret
    exact ⟨rfl, HB.out.trans (HB4.mono HB.out.size)⟩
  · have q' : (pred != -1) = true := by simpa using q
    rw [q']
    cases hlv : R.lives pred
    all_goals
      have HLV : Hid _ := hlv
      clear hlv
      obtain ⟨yi, hyi⟩ : ∃ y, y = R.idOf pred := ⟨_, rfl⟩
      have HYI : Hid (R.idOf pred = yi) := hyi.symm
      rw [← hyi]
      clear hyi
      go_enter Tryz.func26, Tryz.ntmps26
      go_upto_region 1 with fail
      rw [← hW1]
      clear hW1
      refine wp_region_fam F HF.out.1 (by kernel_rfl) (by kernel_rfl) ?_
      repeat (go_big_quiet_step (first
        | (go_at_call 38; refine (lives_r r gp gk R pred _ (HR.out _)).mono ?_; rintro e' w' ⟨hs, hb⟩; exact ⟨by rw [hs, HLV.out], HF.out.2.2 _ _ (hb.mono (HF.out.2.1 _).size)⟩)
        | (go_at_call 40; refine (id_r r gp gk R pred _ (HR.out _)).mono ?_; rintro e' w' ⟨hs, hb⟩; exact ⟨by rw [hs, HYI.out], by subst hb; exact ⟨_, rfl⟩⟩)
        | (go_at_call 55; refine (in_any _ _ _ _).mono ?_; rintro e' w' ⟨hs, hb⟩; exact ⟨hs, by subst hb; exact ⟨_, rfl⟩⟩)))
      refine wpQuiet_nil ?_
      rintro _ ⟨i, rfl⟩
      have HB4 := HF.out.2.1 i
      go_wp2
      go_ret
      exact ⟨ret_b (by simp), HB.out.trans (HB4.mono HB.out.size)⟩

set_option maxRecDepth 100000 in
set_option maxHeartbeats 2000000 in
theorem nearest_r (r gp gk f gm : Nat) (R : Rg) (G : Int → List Int) (best frm x : Int) (a : Option Addr) (len cap : Nat) (l : List Int) (w : World) (h : RingAt w r gp gk R) (hf : FgAt w f r gm G) (hl : InIn w a len l) :
    Calls Tryz.prog 56 #[.pointer (some ⟨f, 0, none⟩), .int .i64 best, .slice a len cap, .int .u64 frm, .int .u64 x] w fun e w' => e = .returned (.int .i64 (R.nearst frm x best l)) ∧ Below w.heap.size w w' := by
  have H : Hid (RingAt w r gp gk R ∧ FgAt w f r gm G) := ⟨h, hf⟩
  have HL : Hid (InIn w a len l) := hl
  have hm := hl.2.1
  clear h hf hl
  go_enter Tryz.func56, Tryz.ntmps56
  go_wp2
  go_loopg [1, 17] len (fun kx b s wr => ∃ (k : Nat) (bb : Int), s = .int .i64 k ∧ b = .int .i64 bb ∧ k ≤ len ∧ kx = len - k ∧ Hid (Below w.heap.size w wr) ∧ Hid (R.nearst frm x bb (l.drop k) = R.nearst frm x best l))
  case atStart => exact ⟨0, best, rfl, rfl, Nat.zero_le _, rfl, (Below.refl _ _ : Below w.heap.size w w), (rfl : R.nearst frm x best (l.drop 0) = R.nearst frm x best l)⟩
  case round =>
    obtain ⟨k, bb, rfl, rfl, hk, rfl, HB, I⟩ := hrel
    by_cases hlt : k < len
    · have hkI : (0 : Int) ≤ (k : Int) ∧ (k : Int) < (len : Int) := by omega
      obtain ⟨b, o, rfl, hb, _, hc⟩ := (HL.out.below (Nat.le_refl _) HB.out).one (v := Value.int .i64) (fun _ => rfl) (i := k) hlt
      have E : Hid (R.nearst frm x bb (l.drop k) = R.nearst frm x (if R.closer frm x bb (l.getD k 0) then l.getD k 0 else bb) (l.drop (k + 1))) := near_drop R frm x bb l k (by rw [HL.out.1]; exact hlt)
      generalize l.getD k 0 = y at hc E
      have hfx := (H.out.2.below HB.out)
      have c0 := hfx.c0
      have cl := hfx.lt.1
      clear hfx
      cases hlv : R.lives y
      · have HC : Hid (R.lives y = false ∧ R.closer frm x bb y = false) := ⟨hlv, by unfold Rg.closer; rw [hlv]; rfl⟩
        clear hlv
        go_wp2_with (go_at_call 38; refine (lives_r r gp gk R y _ (H.out.1.below HB.out)).mono ?_; rintro e w' ⟨rfl, hb'⟩; rw [HC.out.1])
        go_roundg (len - (k + 1))
        case measure => omega
        case rel => exact ⟨k + 1, bb, by go_num, rfl, by omega, rfl, HB.out.trans (hb'.mono HB.out.size), by rw [← I.out, E.out, HC.out.2]; rfl⟩
      · have HC : Hid (R.lives y = true ∧ R.closer frm x bb y = (withinB (R.idOf y) (R.idOf bb) frm && withinB (R.idOf y) (R.idOf bb) x)) := ⟨hlv, by unfold Rg.closer; rw [hlv]; rfl⟩
        clear hlv
        go_wp2_with fail
        refine (lives_r r gp gk R y _ (H.out.1.below HB.out)).mono ?_
        rintro e w3 ⟨rfl, b3⟩
        rw [HC.out.1]
        have H3 : Hid (Below w.heap.size w w3) := HB.out.trans (b3.mono HB.out.size)
        clear b3 c0 cl hc hb HB
        have hfx := (H.out.2.below H3.out)
        have c0 := hfx.c0
        have cl := hfx.lt.1
        clear hfx
        go_upto_region 5 with fail
        obtain ⟨ι, F, _, hF0, hFb, hFc⟩ := grown_fam w3
        have f0 : ∀ i, (F i).cell? ⟨f, 0, none⟩ = _ := fun i => cell_grown c0 (hFb i)
        have HF : Hid ((∃ i, { w3 with drawn := w3.drawn + 1 } = F i) ∧ (∀ i, Below w3.heap.size w3 (F i)) ∧ (∀ i W, Below w3.heap.size (F i) W → ∃ j, W = F j)) := ⟨hF0, hFb, hFc⟩
        have HR : Hid (∀ i, RingAt (F i) r gp gk R) := fun i => (H.out.1.below H3.out).below (hFb i)
        clear hF0 hFb hFc c0
        refine wp_region_fam F HF.out.1 (by kernel_rfl) (by kernel_rfl) ?_
        repeat (go_big_quiet_step (
          (go_at_call 40; refine (id_r r gp gk R _ _ (HR.out _)).mono ?_; rintro e' w' ⟨hs, hb⟩; exact ⟨hs, by subst hb; exact ⟨_, rfl⟩⟩)))
        refine wpQuiet_nil ?_
        rintro _ ⟨i, rfl⟩
        have HB4 : Hid (Below w.heap.size w (F i)) := H3.out.trans ((HF.out.2.1 i).mono H3.out.size)
        clear f0 HF HR cl
        generalize F i = W4 at HB4 ⊢
        generalize R.idOf y = iy at HC ⊢
        generalize R.idOf bb = ib at HC ⊢
        cases h1 : withinB iy ib frm
        · have HQ : Hid (withinB iy ib frm = false) := h1
          clear h1
          go_wp2_with (go_at_call 86; refine (within_any _ _ _ _).mono ?_; rintro e w' ⟨rfl, hw'⟩; subst w'; rw [HQ.out])
          go_roundg (len - (k + 1))
          case measure => omega
          case rel => exact ⟨k + 1, bb, by go_num, rfl, by omega, rfl, HB4, by rw [← I.out, E.out, HC.out.2, HQ.out]; rfl⟩
        · cases h2 : withinB iy ib x
          · have HQ : Hid (withinB iy ib frm = true ∧ withinB iy ib x = false) := ⟨h1, h2⟩
            clear h1 h2
            go_wp2_with (go_at_call 86; refine (within_any _ _ _ _).mono ?_; rintro e w' ⟨rfl, hw'⟩; subst w'; first | rw [HQ.out.1] | rw [HQ.out.2])
            go_roundg (len - (k + 1))
            case measure => omega
            case rel => exact ⟨k + 1, bb, by go_num, rfl, by omega, rfl, HB4, by rw [← I.out, E.out, HC.out.2, HQ.out.1, HQ.out.2]; rfl⟩
          · have HQ : Hid (withinB iy ib frm = true ∧ withinB iy ib x = true) := ⟨h1, h2⟩
            clear h1 h2
            go_wp2_with (go_at_call 86; refine (within_any _ _ _ _).mono ?_; rintro e w' ⟨rfl, hw'⟩; subst w'; first | rw [HQ.out.1] | rw [HQ.out.2])
            go_roundg (len - (k + 1))
            case measure => omega
            case rel => exact ⟨k + 1, y, by go_num, rfl, by omega, rfl, HB4, by rw [← I.out, E.out, HC.out.2, HQ.out.1, HQ.out.2]; rfl⟩
    · go_wp2
      go_ret
      exact ⟨ret_i (by rw [← I.out, List.drop_of_length_le (by rw [HL.out.1]; omega)]; rfl), HB.out⟩

set_option maxRecDepth 100000 in
set_option maxHeartbeats 2000000 in
theorem next_none (r gp gk f gm : Nat) (R : Rg) (G : Int → List Int) (n x : Int) (w : World) (h : RingAt w r gp gk R) (hf : FgAt w f r gm G) (hn : R.kn n = none) :
    Calls Tryz.prog 20 #[.pointer (some ⟨f, 0, none⟩), .int .i64 n, .int .u64 x] w fun e w' => e = .returned (.tuple #[.int .i64 (-1), .iface 57 (.int .i64 6)]) ∧ Below w.heap.size w w' := by
  have H : Hid (RingAt w r gp gk R ∧ R.kn n = none) := ⟨h, hn⟩
  have c0 := hf.c0
  have cl := hf.lt.1
  clear h hf hn
  go_enter Tryz.func20, Tryz.ntmps20
  go_wp2_with (go_at_call 25; refine (peer_none r gp gk R n _ H.out.1 H.out.2).mono ?_; rintro e w2 ⟨rfl, b2⟩)
  go_ret2
  exact ⟨rfl, b2.trans ((below_one _ _).mono b2.size)⟩

set_option maxRecDepth 100000 in
set_option maxHeartbeats 8000000 in
theorem next_some (r gp gk f gm : Nat) (R : Rg) (G : Int → List Int) (n x : Int) (w : World) (h : RingAt w r gp gk R) (hf : FgAt w f r gm G) (hi : Inv R) (hn : R.lives n = true) :
    Calls Tryz.prog 20 #[.pointer (some ⟨f, 0, none⟩), .int .i64 n, .int .u64 x] w fun e w' => e = .returned (.tuple #[.int .i64 (R.nextTo G x n), .nilIface]) ∧ Below w.heap.size w w' := by
  obtain ⟨p, hkn⟩ : ∃ p, R.kn n = some p := by
    unfold Rg.lives at hn
    cases hq : R.kn n with
    | none => rw [hq] at hn; simp at hn
    | some p => exact ⟨p, rfl⟩
  have hpl := hi.lens _ _ hkn
  have hkw : R.know n = p := by simp [Rg.know, hkn]
  have HN : Hid (R.nextTo G x n = if x == p.id || (p.pred != -1 && (R.lives p.pred && inB x (R.idOf p.pred) p.id)) then n else if inB x p.id (R.idOf (headF R.lv p.succ)) then headF R.lv p.succ else R.nearst p.id x (R.nearst p.id x (headF R.lv p.succ) p.succ) (G n)) := by
    show R.nextTo G x n = _
    unfold Rg.nextTo Rg.owns Rg.head
    rw [hkw]
  have H : Hid (RingAt w r gp gk R ∧ FgAt w f r gm G ∧ R.kn n = some p ∧ p.succ.length ≤ 1000) := ⟨h, hf, hkn, by omega⟩
  have c0 := hf.c0
  have cl := hf.lt.1
  clear h hf hi hn hkn hkw hpl
  go_enter Tryz.func20, Tryz.ntmps20
  go_wp2_with fail
  refine (peer_some r gp gk R n p _ H.out.1 H.out.2.2.1 H.out.2.2.2).mono ?_
  rintro e w2 ⟨a2, l2, c2, rfl, h2, b2⟩
  obtain ⟨pid, ppr, psc⟩ := p
  simp only at h2 HN ⊢
  obtain ⟨W3, hW3⟩ : ∃ W3, W3 = w2.alloc (.cells #[.int .u64 pid, .int .i64 ppr, .slice a2 l2 c2] 63) := ⟨_, rfl⟩
  have b3 : Below w.heap.size w W3 := by rw [hW3]; exact b2.trans ((below_one _ _).mono b2.size)
  have H3 : Hid (Below w.heap.size w W3 ∧ InIn W3 a2 l2 psc ∧ W3.heap[w2.heap.size]? = some (.cells #[.int .u64 pid, .int .i64 ppr, .slice a2 l2 c2] 63 (0, 0))) := ⟨b3, h2.row.below (Nat.le_refl _) (by rw [hW3]; exact below_one _ _), by rw [hW3]; exact heap_alloc_new w2 _⟩
  clear b2 b3 h2 c0 cl
  go_upto_region 2 with fail
  rw [← hW3]
  clear hW3
  generalize w2.heap.size = q at H3 ⊢
  have hfx := H.out.2.1.below H3.out.1
  have c0 := hfx.c0
  have c1 := hfx.c1
  have cl := hfx.lt.1
  clear hfx
  have u0 : W3.cell? ⟨q, 0, none⟩ = some (.int .u64 pid) := by simp [World.cell?, H3.out.2.2]
  have u1 : W3.cell? ⟨q, 1, none⟩ = some (.int .i64 ppr) := by simp [World.cell?, H3.out.2.2]
  have u2 : W3.cell? ⟨q, 2, none⟩ = some (.slice a2 l2 c2) := by simp [World.cell?, H3.out.2.2]
  have ul := cell_block u0
  obtain ⟨own, hown⟩ : ∃ o, o = (ppr != -1 && (R.lives ppr && inB x (R.idOf ppr) pid)) := ⟨_, rfl⟩
  rw [← hown] at HN
  have HOW : Hid ((ppr != -1 && (R.lives ppr && inB x (R.idOf ppr) pid)) = own) := hown.symm
  clear hown
  obtain ⟨hd, hhd⟩ : ∃ o, o = headF R.lv psc := ⟨_, rfl⟩
  rw [← hhd] at HN
  have HHD : Hid (headF R.lv psc = hd) := hhd.symm
  clear hhd
  -- the first question
  obtain ⟨ι, F, _, hF0, hFb, hFc⟩ := grown_fam W3
  have f0 : ∀ i, (F i).cell? ⟨f, 0, none⟩ = _ := fun i => cell_grown c0 (hFb i)
  have g0 : ∀ i, (F i).cell? ⟨q, 0, none⟩ = _ := fun i => cell_grown u0 (hFb i)
  have g1 : ∀ i, (F i).cell? ⟨q, 1, none⟩ = _ := fun i => cell_grown u1 (hFb i)
  have g2 : ∀ i, (F i).cell? ⟨q, 2, none⟩ = _ := fun i => cell_grown u2 (hFb i)
  have HF : Hid ((∃ i, { W3 with drawn := W3.drawn + 1 } = F i) ∧ (∀ i, Below W3.heap.size W3 (F i)) ∧ (∀ i W, Below W3.heap.size (F i) W → ∃ j, W = F j)) := ⟨hF0, hFb, hFc⟩
  have HR : Hid (∀ i, RingAt (F i) r gp gk R) := fun i => (H.out.1.below H3.out.1).below (hFb i)
  clear hF0 hFb hFc
  by_cases hx : x = pid
  · have e1 : (x == pid) = true := by simpa using hx
    have HE : Hid (R.nextTo G x n = n) := by show R.nextTo G x n = n; rw [HN.out, e1]; rfl
    clear hx
    go_upto_region 4 with fail
    refine wp_region_fam F HF.out.1 (by kernel_rfl) (by kernel_rfl) ?_
    repeat (go_big_quiet_step (fail))
    refine wpQuiet_nil ?_
    rintro _ ⟨i, rfl⟩
    have HB4 := HF.out.2.1 i
    go_wp2
    go_ret2
    exact ⟨by rw [HE.out]; first | done | rfl | simp, H3.out.1.trans (HB4.mono H3.out.1.size)⟩
  · have e1 : (x == pid) = false := by simpa using hx
    clear hx
    cases own
    · have HE : Hid (R.nextTo G x n = if inB x pid (R.idOf hd) then hd else R.nearst pid x (R.nearst pid x hd psc) (G n)) := by show R.nextTo G x n = _; rw [HN.out, e1]; rfl
      clear HN
      go_upto_region 4 with fail
      refine wp_region_fam F HF.out.1 (by kernel_rfl) (by kernel_rfl) ?_
      repeat (go_big_quiet_step (
        (go_at_call 26; refine (owns_r r gp gk R pid ppr x a2 l2 c2 _ (HR.out _)).mono ?_; rintro e' w' ⟨hs, hb⟩; exact ⟨by rw [hs, HOW.out], HF.out.2.2 _ _ (hb.mono (HF.out.2.1 _).size)⟩)))
      refine wpQuiet_nil ?_
      rintro _ ⟨i, rfl⟩
      have H4 : Hid (Below w.heap.size w (F i) ∧ InIn (F i) a2 l2 psc ∧ (F i).heap[q]? = some (.cells #[.int .u64 pid, .int .i64 ppr, .slice a2 l2 c2] 63 (0, 0))) := ⟨H3.out.1.trans ((HF.out.2.1 i).mono H3.out.1.size), H3.out.2.1.below (Nat.le_refl _) (HF.out.2.1 i), ((HF.out.2.1 i).block _ (lt_of_block H3.out.2.2)).trans H3.out.2.2⟩
      clear f0 g0 g1 g2 HF HR c0 c1 cl u0 u1 u2 ul H3 HOW
      generalize F i = W4 at H4 ⊢
      have hfx := H.out.2.1.below H4.out.1
      have c0 := hfx.c0
      have c1 := hfx.c1
      have cl := hfx.lt.1
      clear hfx
      have u0 : W4.cell? ⟨q, 0, none⟩ = some (.int .u64 pid) := by simp [World.cell?, H4.out.2.2]
      have u1 : W4.cell? ⟨q, 1, none⟩ = some (.int .i64 ppr) := by simp [World.cell?, H4.out.2.2]
      have u2 : W4.cell? ⟨q, 2, none⟩ = some (.slice a2 l2 c2) := by simp [World.cell?, H4.out.2.2]
      have ul := cell_block u0
      -- the head
      obtain ⟨ι2, F, _, hF0, hFb, hFc⟩ := grown_fam W4
      have f0 : ∀ i, (F i).cell? ⟨f, 0, none⟩ = _ := fun i => cell_grown c0 (hFb i)
      have g0 : ∀ i, (F i).cell? ⟨q, 0, none⟩ = _ := fun i => cell_grown u0 (hFb i)
      have g1 : ∀ i, (F i).cell? ⟨q, 1, none⟩ = _ := fun i => cell_grown u1 (hFb i)
      have g2 : ∀ i, (F i).cell? ⟨q, 2, none⟩ = _ := fun i => cell_grown u2 (hFb i)
      have HF : Hid ((∃ i, { W4 with drawn := W4.drawn + 1 } = F i) ∧ (∀ i, Below W4.heap.size W4 (F i)) ∧ (∀ i W, Below W4.heap.size (F i) W → ∃ j, W = F j)) := ⟨hF0, hFb, hFc⟩
      have HR : Hid (∀ i, RingAt (F i) r gp gk R ∧ InIn (F i) a2 l2 psc) := fun i => ⟨(H.out.1.below H4.out.1).below (hFb i), H4.out.2.1.below (Nat.le_refl _) (hFb i)⟩
      clear hF0 hFb hFc
      go_upto_region 6 with fail
      refine wp_region_fam F HF.out.1 (by kernel_rfl) (by kernel_rfl) ?_
      repeat (go_big_quiet_step (
        (go_at_call 54; refine (head_r r gp gk R _ _ a2 l2 c2 psc _ (HR.out _).1 (HR.out _).2).mono ?_; rintro e' w' ⟨hs, hb⟩; exact ⟨by rw [hs, HHD.out], HF.out.2.2 _ _ (hb.mono (HF.out.2.1 _).size)⟩)))
      refine wpQuiet_nil ?_
      rintro _ ⟨i2, rfl⟩
      have H5 : Hid (Below w.heap.size w (F i2) ∧ InIn (F i2) a2 l2 psc ∧ (F i2).heap[q]? = some (.cells #[.int .u64 pid, .int .i64 ppr, .slice a2 l2 c2] 63 (0, 0))) := ⟨H4.out.1.trans ((HF.out.2.1 i2).mono H4.out.1.size), H4.out.2.1.below (Nat.le_refl _) (HF.out.2.1 i2), ((HF.out.2.1 i2).block _ (lt_of_block H4.out.2.2)).trans H4.out.2.2⟩
      clear f0 g0 g1 g2 HF HR c0 c1 cl u0 u1 u2 ul H4 HHD
      generalize F i2 = W5 at H5 ⊢
      have hfx := H.out.2.1.below H5.out.1
      have c0 := hfx.c0
      have c1 := hfx.c1
      have cl := hfx.lt.1
      clear hfx
      have u0 : W5.cell? ⟨q, 0, none⟩ = some (.int .u64 pid) := by simp [World.cell?, H5.out.2.2]
      have u1 : W5.cell? ⟨q, 1, none⟩ = some (.int .i64 ppr) := by simp [World.cell?, H5.out.2.2]
      have u2 : W5.cell? ⟨q, 2, none⟩ = some (.slice a2 l2 c2) := by simp [World.cell?, H5.out.2.2]
      have ul := cell_block u0
      -- is it the head's?
      obtain ⟨hid, hhid⟩ : ∃ o, o = R.idOf hd := ⟨_, rfl⟩
      rw [← hhid] at HE
      have HID : Hid (R.idOf hd = hid) := hhid.symm
      clear hhid
      obtain ⟨ib, hib⟩ : ∃ o, o = inB x pid hid := ⟨_, rfl⟩
      rw [← hib] at HE
      have HIB : Hid (inB x pid hid = ib) := hib.symm
      clear hib
      obtain ⟨ι3, F, _, hF0, hFb, hFc⟩ := grown_fam W5
      have f0 : ∀ i, (F i).cell? ⟨f, 0, none⟩ = _ := fun i => cell_grown c0 (hFb i)
      have g0 : ∀ i, (F i).cell? ⟨q, 0, none⟩ = _ := fun i => cell_grown u0 (hFb i)
      have HF : Hid ((∃ i, { W5 with drawn := W5.drawn + 1 } = F i) ∧ (∀ i, Below W5.heap.size W5 (F i)) ∧ (∀ i W, Below W5.heap.size (F i) W → ∃ j, W = F j)) := ⟨hF0, hFb, hFc⟩
      have HR : Hid (∀ i, RingAt (F i) r gp gk R) := fun i => (H.out.1.below H5.out.1).below (hFb i)
      clear hF0 hFb hFc
      go_upto_region 7 with fail
      refine wp_region_fam F HF.out.1 (by kernel_rfl) (by kernel_rfl) ?_
      repeat (go_big_quiet_step (first
        | (go_at_call 40; refine (id_r r gp gk R hd _ (HR.out _)).mono ?_; rintro e' w' ⟨hs, hb⟩; exact ⟨by rw [hs, HID.out], by subst hb; exact ⟨_, rfl⟩⟩)
        | (go_at_call 55; refine (in_any _ _ _ _).mono ?_; rintro e' w' ⟨hs, hb⟩; exact ⟨by rw [hs, HIB.out], by subst hb; exact ⟨_, rfl⟩⟩)))
      refine wpQuiet_nil ?_
      rintro _ ⟨i3, rfl⟩
      have H6 : Hid (Below w.heap.size w (F i3) ∧ InIn (F i3) a2 l2 psc ∧ (F i3).heap[q]? = some (.cells #[.int .u64 pid, .int .i64 ppr, .slice a2 l2 c2] 63 (0, 0))) := ⟨H5.out.1.trans ((HF.out.2.1 i3).mono H5.out.1.size), H5.out.2.1.below (Nat.le_refl _) (HF.out.2.1 i3), ((HF.out.2.1 i3).block _ (lt_of_block H5.out.2.2)).trans H5.out.2.2⟩
      clear f0 g0 HF HR c0 c1 cl u0 u1 u2 ul H5 HID HIB
      generalize F i3 = W6 at H6 ⊢
      have hfx := H.out.2.1.below H6.out.1
      have c0 := hfx.c0
      have c1 := hfx.c1
      have cl := hfx.lt.1
      clear hfx
      have u0 : W6.cell? ⟨q, 0, none⟩ = some (.int .u64 pid) := by simp [World.cell?, H6.out.2.2]
      have u1 : W6.cell? ⟨q, 1, none⟩ = some (.int .i64 ppr) := by simp [World.cell?, H6.out.2.2]
      have u2 : W6.cell? ⟨q, 2, none⟩ = some (.slice a2 l2 c2) := by simp [World.cell?, H6.out.2.2]
      have ul := cell_block u0
      cases ib
      · obtain ⟨nb, hnb⟩ : ∃ o, o = R.nearst pid x hd psc := ⟨_, rfl⟩
        rw [← hnb] at HE
        have HNB : Hid (R.nearst pid x hd psc = nb) := hnb.symm
        clear hnb
        go_wp2_with fail
        refine (nearest_r r gp gk f gm R G hd pid x a2 l2 c2 psc _ (H.out.1.below H6.out.1) (H.out.2.1.below H6.out.1) H6.out.2.1).mono ?_
        rintro e w7 ⟨rfl, b7⟩
        rw [HNB.out]
        have H7 : Hid (Below w.heap.size w w7 ∧ w7.heap[q]? = some (.cells #[.int .u64 pid, .int .i64 ppr, .slice a2 l2 c2] 63 (0, 0))) := ⟨H6.out.1.trans (b7.mono H6.out.1.size), (b7.block _ (lt_of_block H6.out.2.2)).trans H6.out.2.2⟩
        clear c0 c1 cl u0 u1 u2 ul b7 H6 HNB
        have hfx := H.out.2.1.below H7.out.1
        obtain ⟨ag, lg, cg, hag, _, _, _, hlk⟩ := hfx.ask n
        have c0 := hfx.c0
        have c1 := hfx.c1
        have cl := hfx.lt.1
        have u0 : w7.cell? ⟨q, 0, none⟩ = some (.int .u64 pid) := by simp [World.cell?, H7.out.2]
        have ul := cell_block u0
        obtain ⟨ι4, F, _, hF0, hFb, hFc⟩ := grown_fam w7
        have f1 : ∀ i, (F i).cell? ⟨f, 1, none⟩ = _ := fun i => cell_grown c1 (hFb i)
        have g0 : ∀ i, (F i).cell? ⟨q, 0, none⟩ = _ := fun i => cell_grown u0 (hFb i)
        have k0 : ∀ i, (Instr.lookup 93 (.map (some gm)) (.int .i64 n) false).run Tryz.prog (F i) = .ok (.slice ag lg cg) (F i) := fun i => hlk _ (hFb i)
        have HF : Hid ((∃ i, { w7 with drawn := w7.drawn + 1 } = F i) ∧ (∀ i, Below w7.heap.size w7 (F i)) ∧ (∀ i W, Below w7.heap.size (F i) W → ∃ j, W = F j)) := ⟨hF0, hFb, hFc⟩
        have HR : Hid (∀ i, RingAt (F i) r gp gk R ∧ FgAt (F i) f r gm G ∧ InIn (F i) ag lg (G n)) := fun i => ⟨(H.out.1.below H7.out.1).below (hFb i), hfx.below (hFb i), hag.below (Nat.le_refl _) (hFb i)⟩
        clear hF0 hFb hFc hlk hag hfx
        obtain ⟨res, hres⟩ : ∃ o, o = R.nearst pid x nb (G n) := ⟨_, rfl⟩
        rw [← hres] at HE
        have HRS : Hid (R.nearst pid x nb (G n) = res) := hres.symm
        clear hres
        go_upto_region 10 with fail
        refine wp_region_fam F HF.out.1 (by kernel_rfl) (by kernel_rfl) ?_
        repeat (go_big_quiet_step (
          (go_at_call 56; refine (nearest_r r gp gk f gm R G nb pid x ag lg cg (G n) _ (HR.out _).1 (HR.out _).2.1 (HR.out _).2.2).mono ?_; rintro e' w' ⟨hs, hb⟩; exact ⟨by rw [hs, HRS.out], HF.out.2.2 _ _ (hb.mono (HF.out.2.1 _).size)⟩)))
        refine wpQuiet_nil ?_
        rintro _ ⟨i4, rfl⟩
        have HB8 := HF.out.2.1 i4
        go_wp2
        go_ret2
        exact ⟨by rw [HE.out]; first | done | rfl | simp, H7.out.1.trans (HB8.mono H7.out.1.size)⟩
      · go_wp2
        go_ret2
        exact ⟨by rw [HE.out]; first | done | rfl | simp, H6.out.1⟩
    · have HE : Hid (R.nextTo G x n = n) := by show R.nextTo G x n = n; rw [HN.out, e1]; rfl
      clear HN
      go_upto_region 4 with fail
      refine wp_region_fam F HF.out.1 (by kernel_rfl) (by kernel_rfl) ?_
      repeat (go_big_quiet_step (
        (go_at_call 26; refine (owns_r r gp gk R pid ppr x a2 l2 c2 _ (HR.out _)).mono ?_; rintro e' w' ⟨hs, hb⟩; exact ⟨by rw [hs, HOW.out], HF.out.2.2 _ _ (hb.mono (HF.out.2.1 _).size)⟩)))
      refine wpQuiet_nil ?_
      rintro _ ⟨i, rfl⟩
      have HB4 := HF.out.2.1 i
      go_wp2
      go_ret2
      exact ⟨by rw [HE.out]; first | done | rfl | simp, H3.out.1.trans (HB4.mono H3.out.1.size)⟩
end Go.Proofs.YtgiiadjocfnhlabGreatDoor

/- route.Path. -/
namespace Go.Proofs.YtgiiadjocfnhlabGreatDoor
open Go.ChangeShapes Go.WideShapes Go.ChangeAt Go.RowKit Go.Deep
set_option linter.unusedVariables false

/-- A row of ints of one's own that grows. -/
structure Gi (w wr : World) (v : Value) (n : Nat) (l : List Int) : Prop where
  row : wr.ownsRow w.heap.size 3 1 v n (l.map cellI)
  bel : Below w.heap.size w wr
theorem Gi.nil (w : World) : Gi w w (.slice none 0 0) 0 [] := ⟨World.ownsRow_nil w _ _ _, Below.refl _ _⟩
theorem Gi.below {w wr w' : World} {v : Value} {n : Nat} {l : List Int} (h : Gi w wr v n l) (hb : Below wr.heap.size wr w') : Gi w w' v n l :=
  ⟨h.row.kept (row := none) ⟨hb.os, hb.tape, hb.output, hb.size, fun b hb1 _ => hb.block b hb1⟩ (by cases HH : Value.ownBlock _ <;> simp), h.bel.trans (hb.mono h.bel.size)⟩
theorem Gi.app {w wr w' : World} {v v' : Value} {n : Nat} {l : List Int} {y : Int} (h : Gi w wr v n l) (ha : Appended w.heap.size 3 wr w' v v' (n + 1) (l.map cellI ++ [cellI y])) : Gi w w' v' (n + 1) (l ++ [y]) := by
  have hg := ha.grown
  refine ⟨by rw [List.map_append]; exact ha.row, h.bel.trans ⟨hg.os, hg.tape, hg.output, hg.size, fun b hb => hg.block b (by have := h.bel.size; omega) (fun e => ?_)⟩⟩
  have := (World.ownsRow.lt h.row b e.symm).1
  omega
theorem Gi.in {w wr : World} {a : Option Addr} {n c : Nat} {l : List Int} (h : Gi w wr (.slice a n c) n l) (hok : ∀ x ∈ l, i64 x) (hn : n ≤ 1000) : InIn wr a n l ∧ (a = none → n = 0) ∧ n ≤ c ∧ c ≤ 9223372036854775807 ∧ ∀ x, a = some x → w.heap.size ≤ x.block := by
  refine ⟨in_of_own h.row hok (by omega), fun e => ?_, (own_caps h.row).1, (own_caps h.row).2, own_new h.row⟩
  subst e
  rcases h.row.2 with ⟨_, e⟩ | ⟨g, cap, cur, hv, _⟩
  · exact e
  · cases hv
theorem src_oneI (w : World) (y : Int) : Src Tryz.prog 1 24 (.slice (some ⟨w.heap.size, 0, none⟩) 1 1) 1 [cellI y] (w.alloc (.cells #[.int .i64 y] 3)) :=
  Src.ofSlice _ Tryz.underlying24 _ _ _ _ rfl (World.news_of_block (cs := #[.int .i64 y]) (t := 3) (fr := (0, 0)) (heap_alloc_new w _)) (by simp [cellI, Value.oneCell'])
theorem way_i64 {R : Rg} (h : Inv R) {G : Int → List Int} {x n : Int} (hx : Plc x) (hn : R.lives n = true) (k : Nat) : ∀ y ∈ R.way G x n k, i64 y := fun y hy => by
  obtain ⟨j, _, rfl⟩ := List.mem_map.1 hy
  have := h.rng _ (hop_lives (G := G) h hx hn j)
  unfold i64; omega

set_option maxRecDepth 100000 in
set_option maxHeartbeats 2000000 in
theorem path_none (r gp gk f gm : Nat) (R : Rg) (G : Int → List Int) (n x : Int) (w : World) (h : RingAt w r gp gk R) (hf : FgAt w f r gm G) (hn : R.kn n = none) :
    Calls Tryz.prog 21 #[.pointer (some ⟨f, 0, none⟩), .int .i64 n, .int .u64 x] w fun e w' => e = .returned (.tuple #[.slice none 0 0, .iface 57 (.int .i64 6)]) ∧ Below w.heap.size w w' := by
  have H : Hid (RingAt w r gp gk R ∧ FgAt w f r gm G ∧ R.kn n = none) := ⟨h, hf, hn⟩
  clear h hf hn
  go_enter Tryz.func21, Tryz.ntmps21
  go_wp2
  go_loopg [1, 8, 11] 1 (fun kx nv wv s wr => nv = .int .i64 n ∧ wv = .slice none 0 0 ∧ s = .int .i64 0 ∧ kx = 1 ∧ Hid (Below w.heap.size w wr))
  case atStart => exact ⟨rfl, rfl, rfl, rfl, (Below.refl _ _ : Below w.heap.size w w)⟩
  case round =>
    obtain ⟨rfl, rfl, rfl, rfl, HB⟩ := hrel
    go_wp2_with fail
    refine (next_none r gp gk f gm R G n x _ (H.out.1.below HB.out) (H.out.2.1.below HB.out) H.out.2.2).mono ?_
    rintro e w2 ⟨rfl, b2⟩
    go_wp2
    go_ret2
    exact ⟨rfl, HB.out.trans (b2.mono HB.out.size)⟩

set_option maxRecDepth 100000 in
set_option maxHeartbeats 4000000 in
theorem path_r (r gp gk f gm : Nat) (R : Rg) (G : Int → List Int) (n x : Int) (w : World) (h : RingAt w r gp gk R) (hf : FgAt w f r gm G) (hi : Inv R) (hx : Plc x) (hn : R.lives n = true) :
    Calls Tryz.prog 21 #[.pointer (some ⟨f, 0, none⟩), .int .i64 n, .int .u64 x] w fun e w' =>
      ((∃ (k : Nat) (a : Option Addr) (c : Nat), k < 65 ∧ R.stops G x n k ∧ e = .returned (.tuple #[.slice a (k + 1) c, .nilIface]) ∧ InIn w' a (k + 1) (R.way G x n (k + 1)) ∧ ∀ y, a = some y → w.heap.size ≤ y.block) ∨
       ((∀ k, k < 65 → R.hopTo G x n (k + 1) ≠ R.hopTo G x n k) ∧ e = .returned (.tuple #[.slice none 0 0, .iface 57 (.int .i64 13)]))) ∧ Below w.heap.size w w' := by
  obtain ⟨i0, hif, hz0, hz1, hz2⟩ := info_of Tryz.infoInt
  have H : Hid (RingAt w r gp gk R ∧ FgAt w f r gm G ∧ Inv R ∧ Plc x ∧ R.lives n = true) := ⟨h, hf, hi, hx, hn⟩
  clear h hf hi hx hn
  go_enter Tryz.func21, Tryz.ntmps21
  go_wp2
  go_loopg [1, 8, 11] 65 (fun kx nv wv s wr => ∃ (k : Nat) (m : Int) (a : Option Addr) (c : Nat), s = .int .i64 k ∧ nv = .int .i64 m ∧ wv = .slice a k c ∧ k ≤ 65 ∧ kx = 65 - k ∧ Hid (m = R.hopTo G x n k ∧ Gi w wr (.slice a k c) k (R.way G x n k) ∧ ∀ j, j < k → R.hopTo G x n (j + 1) ≠ R.hopTo G x n j))
  case atStart => exact ⟨0, n, none, 0, rfl, rfl, rfl, by omega, rfl, ⟨rfl, Gi.nil w, fun j hj => absurd hj (Nat.not_lt_zero _)⟩⟩
  case round =>
    obtain ⟨k, m, a, c, rfl, rfl, rfl, hk, rfl, HG⟩ := hrel
    by_cases hlt : k < 65
    · have hkI : (k : Int) < 65 := by omega
      have HL : Hid (R.lives m = true) := by show R.lives m = true; rw [HG.out.1]; exact hop_lives H.out.2.2.1 H.out.2.2.2.1 H.out.2.2.2.2 k
      go_wp2_with fail
      refine (next_some r gp gk f gm R G m x _ (H.out.1.below HG.out.2.1.bel) (H.out.2.1.below HG.out.2.1.bel) H.out.2.2.1 HL.out).mono ?_
      rintro e w2 ⟨rfl, b2⟩
      obtain ⟨m2, hm2⟩ : ∃ m2, m2 = R.nextTo G x m := ⟨_, rfl⟩
      rw [← hm2]
      have HM : Hid (m2 = R.hopTo G x n (k + 1)) := by show m2 = R.nextTo G x (R.hopTo G x n k); rw [← HG.out.1]; exact hm2
      have H2 : Hid (Gi w w2 (.slice a k c) k (R.way G x n k)) := HG.out.2.1.below b2
      clear hm2 b2
      have HA : Hid ((w2.alloc (.cells #[.int .i64 m] 3)).ownsRow w.heap.size 3 1 (.slice a k c) k ((R.way G x n k).map cellI)) := (H2.out.below (below_one _ _)).row
      have HSz : Hid (w.heap.size ≤ w2.heap.size) := H2.out.bel.size
      go_wp2_with (at_builtin; refine wpList_own_append _ rfl _ _ 24 24 rfl w.heap.size 3 i0 _ 8 Tryz.underlying24 hif hz0 hz1 hz2 rfl _ _ _ rfl HA.out _ 1 [cellI m] rfl (src_oneI w2 m) ?c3 ?c4 ?c5 ?_)
      case c3 => unfold maxLen; omega
      case c4 => omega
      case c5 => have := HSz.out; simp; omega
      intro v' w3 ha
      obtain ⟨a', c', rfl⟩ := ha.shape
      have H3 : Hid (Gi w w3 (.slice a' (k + 1) c') (k + 1) (R.way G x n (k + 1))) := by
        have := (H2.out.below (below_one _ _)).app ha
        rw [way_succ, ← HG.out.1]; exact this
      clear ha HA HSz H2
      by_cases he : m2 = m
      · have e1 : (m2 == m) = true := by simpa using he
        have HS : Hid (R.stops G x n k) := ⟨HG.out.2.2, by rw [← HM.out, ← HG.out.1]; exact he⟩
        clear he
        go_wp2
        go_ret2
        have hin := H3.out.in (way_i64 H.out.2.2.1 H.out.2.2.2.1 H.out.2.2.2.2 (k + 1)) (by omega)
        exact ⟨.inl ⟨k, a', c', hlt, HS.out, by simp, hin.1, hin.2.2.2.2⟩, H3.out.bel⟩
      · have e1 : (m2 == m) = false := by simpa using he
        have HS : Hid (∀ j, j < k + 1 → R.hopTo G x n (j + 1) ≠ R.hopTo G x n j) := fun j hj => by
          by_cases q : j < k
          · exact HG.out.2.2 j q
          · obtain rfl : j = k := by omega
            rw [← HM.out, ← HG.out.1]; exact he
        clear he
        go_wp2
        go_roundg (65 - (k + 1))
        case measure => omega
        case rel => exact ⟨k + 1, m2, a', c', by go_num, rfl, by simp, by omega, rfl, ⟨HM.out, H3.out, HS.out⟩⟩
    · obtain rfl : k = 65 := by omega
      go_wp2
      go_ret2
      exact ⟨.inr ⟨HG.out.2.2, rfl⟩, HG.out.2.1.bel⟩
end Go.Proofs.YtgiiadjocfnhlabGreatDoor

/- slices.Compact at ints; route.Fix, Round. -/
namespace Go.Proofs.YtgiiadjocfnhlabGreatDoor
open Go.ChangeShapes Go.WideShapes Go.ChangeAt Go.RowKit Go.Deep
set_option linter.unusedVariables false

theorem rt_compact_len {zs : List Int} : (Lib.compact zs).length ≤ zs.length := by
  unfold Lib.compact Lib.compactUpTo
  rw [List.length_map]
  exact Nat.le_trans (List.length_filter_le _ _) (by simp)
theorem rt_compact_mem {zs : List Int} : ∀ x ∈ Lib.compact zs, x ∈ zs := fun x hx => by
  unfold Lib.compact Lib.compactUpTo at hx
  obtain ⟨j, hj, rfl⟩ := List.mem_map.1 hx
  have hl : j < zs.length := by have := (List.mem_filter.1 hj).1; simpa using this
  have e : zs.toArray[j]! = zs[j] := by simp [hl]
  rw [e]
  exact List.getElem_mem _
theorem rt_below_cells {B b : Nat} (hb : B ≤ b) : ∀ (vs : List Value) (o : Nat) (w : World), Below B w (w.setCells b o vs)
  | [], _, w => Below.refl _ _
  | v :: r, o, w => by rw [World.setCells]; exact ((Below.refl B w).setCell (p := ⟨b, o, none⟩) hb v).trans (rt_below_cells hb r (o + 1) _)
theorem rt_size_cells {b : Nat} : ∀ (vs : List Value) (o : Nat) (w : World), (w.setCells b o vs).heap.size = w.heap.size
  | [], _, w => rfl
  | v :: r, o, w => by rw [World.setCells, rt_size_cells r (o + 1)]; simp [World.setCell]
/-- slices.Compact of a row of one's own. -/
theorem compact_gi (w wr : World) (a : Option Addr) (n c : Nat) (l : List Int) (h : Gi w wr (.slice a n c) n l) (hok : ∀ x ∈ l, i64 x) (hn : n ≤ 1000) :
    Calls Tryz.prog 48 #[.slice a n c] wr fun e w' => ∃ m, e = .returned (.slice a m c) ∧ InIn w' a m (Lib.compact l) ∧ (a = none → m = 0) ∧ m ≤ c ∧ c ≤ 9223372036854775807 ∧ Below w.heap.size w w' := by
  have hl : l.length = n := by have := h.row.1; simpa using this
  have hcp := own_caps h.row
  rcases h.row.2 with ⟨hv, h0⟩ | ⟨g, cap, cur, hv, hB, hg, hnc, _, hcs, _⟩
  · have hL : l = [] := List.eq_nil_of_length_eq_zero (by omega)
    subst hL
    subst h0
    refine (Tryz.slices_Compact_int_empty a c wr).mono ?_
    rintro e w' ⟨rfl, hw'⟩
    subst w'
    exact ⟨0, rfl, ⟨rfl, by omega, .inl rfl⟩, fun _ => rfl, by omega, hcp.2, h.bel⟩
  · have hcell := h.row.cells (g := g) (by rw [hv]; rfl)
    simp only [Value.slice.injEq] at hv
    obtain ⟨rfl, _, rfl⟩ := hv
    have hgl := lt_of_block hg
    have hc : ∀ i, i < l.length → wr.cell? ⟨g, 0 + i, none⟩ = some (.int .i64 (l.getD i 0)) := fun i hi => by
      have e := hcell i (cellI (l.getD i 0)) (by simp [hi])
      rw [Addr.add_lit] at e
      exact e
    have hf : ∀ j, j < n → wr.frozen? ⟨g, 0 + j, none⟩ = false := fun j _ => by simp [World.frozen?, hg]
    refine (Tryz.slices_Compact_int_cells g 0 n c l wr (by omega) (by omega) hnc hc hf).mono ?_
    rw [List.take_of_length_le (by omega)]
    rintro e w' ⟨rfl, q, rfl⟩
    have hcl := rt_compact_len (zs := l)
    refine ⟨(Lib.compact l).length, rfl, ⟨rfl, by omega, ?_⟩, (fun e => by cases e), by omega, hcp.2, ?_⟩
    · refine .inr ⟨g, 0, rfl, ?_, fun j hj => ⟨?_, fun i hi => ?_⟩⟩
      · rw [rt_size_cells]; exact hgl
      · rw [List.getD_eq_getElem?_getD, List.getElem?_eq_getElem hj]
        exact hok _ (rt_compact_mem _ (List.getElem_mem _))
      · obtain rfl : i = 0 := by omega
        have hin := World.cell?_setCells_in g ((Lib.compact l ++ List.replicate (n - (Lib.compact l).length) 0).map (Value.int .i64)) 0 (wr.drewN q)
          (fun k hk => by
            have hk' : k < l.length := by simp at hk; omega
            have e := hc k hk'
            have e' : (wr.drewN q).cell? ⟨g, 0 + k, none⟩ = wr.cell? ⟨g, 0 + k, none⟩ := rfl
            rw [e', e]; rfl) j (by simp; omega)
        have ea : (⟨g, 0 + j * 1 + 0, none⟩ : Addr) = ⟨g, 0 + j, none⟩ := by simp
        rw [ea, hin]
        simp [encI, hj]
    · have hb : Below w.heap.size w (wr.drewN q) := ⟨h.bel.os, h.bel.tape, h.bel.output, h.bel.size, h.bel.block⟩
      exact hb.trans (rt_below_cells hB _ _ _)

/-- Where a way ends; none: it is too long. -/
def Rg.endG (R : Rg) (G : Int → List Int) (x : Int) : Nat → Int → Option Int
  | 0, _ => none
  | j + 1, m => if R.nextTo G x m = m then some m else R.endG G x j (R.nextTo G x m)
theorem end_skip {R : Rg} {G : Int → List Int} {x n : Int} : ∀ i, i ≤ 65 → (∀ j, j < i → R.hopTo G x n (j + 1) ≠ R.hopTo G x n j) → R.endG G x 65 n = R.endG G x (65 - i) (R.hopTo G x n i) := by
  intro i
  induction i with
  | zero => intro _ _; rfl
  | succ i ih =>
    intro hi hne
    rw [ih (by omega) (fun j hj => hne j (by omega)), show 65 - i = (65 - (i + 1)) + 1 by omega]
    show (if R.hopTo G x n (i + 1) = R.hopTo G x n i then _ else _) = _
    rw [if_neg (hne i (by omega))]; rfl
theorem end_stop {R : Rg} {G : Int → List Int} {x n : Int} {k : Nat} (hk : k < 65) (h : R.stops G x n k) : R.endG G x 65 n = some (R.hopTo G x n k) := by
  rw [end_skip k (by omega) h.1, show 65 - k = (64 - k) + 1 by omega]
  show (if R.hopTo G x n (k + 1) = R.hopTo G x n k then _ else _) = _
  rw [if_pos h.2]
theorem end_none {R : Rg} {G : Int → List Int} {x n : Int} (h : ∀ k, k < 65 → R.hopTo G x n (k + 1) ≠ R.hopTo G x n k) : R.endG G x 65 n = none := by
  rw [end_skip 65 (by omega) h]; rfl
/-- The owners that a member finds for its first k places. -/
def Rg.finL (R : Rg) (G : Int → List Int) (n : Int) (k : Nat) : List Int := (List.range k).filterMap fun (j : Nat) => R.endG G (startN (R.idOf n) j) 65 n
theorem fin_some {R : Rg} {G : Int → List Int} {n e : Int} {k : Nat} (h : R.endG G (startN (R.idOf n) k) 65 n = some e) : R.finL G n (k + 1) = R.finL G n k ++ [e] := by
  simp [Rg.finL, List.range_succ, List.filterMap_append, h]
theorem fin_none {R : Rg} {G : Int → List Int} {n : Int} {k : Nat} (h : R.endG G (startN (R.idOf n) k) 65 n = none) : R.finL G n (k + 1) = R.finL G n k := by
  simp [Rg.finL, List.range_succ, List.filterMap_append, h]
theorem end_i64 {R : Rg} (h : Inv R) {G : Int → List Int} {x : Int} (hx : Plc x) : ∀ (j : Nat) (n e : Int), R.lives n = true → R.endG G x j n = some e → R.lives e = true := by
  intro j
  induction j with
  | zero => intro n e _ q; cases q
  | succ j ih =>
    intro n e hn q
    unfold Rg.endG at q
    split at q
    · cases q; exact hn
    · exact ih _ _ (next_spec h hx hn).1 q
theorem fin_i64 {R : Rg} (h : Inv R) {G : Int → List Int} {n : Int} (hn : R.lives n = true) (k : Nat) : ∀ y ∈ R.finL G n k, i64 y := fun y hy => by
  obtain ⟨j, _, e⟩ := List.mem_filterMap.1 hy
  have hs := start_rng (R.idOf n) j (h.u n)
  have := h.rng _ (end_i64 h hs 65 n y hn e)
  unfold i64; omega
/-- Fingers that one member has asked for. -/
def Rg.fixG (R : Rg) (G : Int → List Int) (n : Int) : Int → List Int := upd G n (Lib.compact (R.finL G n 64))

set_option maxRecDepth 100000 in
set_option maxHeartbeats 4000000 in
theorem fix_r (r gp gk f gm : Nat) (R : Rg) (G : Int → List Int) (n : Int) (w : World) (h : RingAt w r gp gk R) (hf : FgAt w f r gm G) (hi : Inv R) (hn : R.lives n = true) :
    Calls Tryz.prog 15 #[.pointer (some ⟨f, 0, none⟩), .int .i64 n] w fun e w' => e = .returned .nilIface ∧ FgAt w' f r gm (R.fixG G n) ∧ Kp w w' gm gm := by
  obtain ⟨i0, hif, hz0, hz1, hz2⟩ := info_of Tryz.infoInt
  have H : Hid (RingAt w r gp gk R ∧ FgAt w f r gm G ∧ Inv R ∧ R.lives n = true) := ⟨h, hf, hi, hn⟩
  have c0 := hf.c0
  have cl := hf.lt.1
  clear h hf hi hn
  go_enter Tryz.func15, Tryz.ntmps15
  go_wp2_with fail
  refine (lives_r r gp gk R n _ H.out.1).mono ?_
  rintro e w1 ⟨rfl, b1⟩
  rw [H.out.2.2.2]
  have H1 : Hid (Gi w w1 (.slice none 0 0) 0 (R.finL G n 0)) := ⟨World.ownsRow_nil w1 _ _ _, b1⟩
  clear b1 c0 cl
  go_wp2
  go_loopg [5, 17] 64 (fun kx ov s wr => ∃ (k m : Nat) (a : Option Addr) (c : Nat), s = .int .i64 k ∧ ov = .slice a m c ∧ m ≤ k ∧ k ≤ 64 ∧ kx = 64 - k ∧ Hid (Gi w wr (.slice a m c) m (R.finL G n k)))
  case atStart => exact ⟨0, 0, none, 0, rfl, rfl, Nat.le_refl _, by omega, rfl, H1⟩
  case round =>
    obtain ⟨k, m, a, c, rfl, rfl, hm, hk, rfl, HG⟩ := hrel
    clear H1
    have hfx := H.out.2.1.below HG.out.bel
    have c0 := hfx.c0
    have c1 := hfx.c1
    have cl := hfx.lt.1
    by_cases hlt : k < 64
    · have hkI : (k : Int) < 64 := by omega
      obtain ⟨st, hst⟩ : ∃ st, st = startN (R.idOf n) k := ⟨_, rfl⟩
      have HST : Hid (startN (R.idOf n) k = st ∧ Plc st) := ⟨hst.symm, by rw [hst]; exact start_rng _ _ (H.out.2.2.1.u n)⟩
      clear hst hfx
      go_wp2_with (first
        | (go_at_call 40; refine (id_r r gp gk R n _ (H.out.1.below HG.out.bel)).mono ?_; rintro e w' ⟨rfl, hw'⟩; subst w')
        | (go_at_call 47; refine (start_any _ _ _).mono ?_; rintro e w' ⟨rfl, hw'⟩; subst w'; rw [HST.out.1])
        | fail)
      refine (path_r r gp gk f gm R G n st _ (H.out.1.below HG.out.bel) (H.out.2.1.below HG.out.bel) H.out.2.2.1 HST.out.2 H.out.2.2.2).mono ?_
      rintro e w2 ⟨h2, b2⟩
      have H2 : Hid (Gi w w2 (.slice a m c) m (R.finL G n k)) := HG.out.below b2
      clear b2 c0 c1 cl HG
      rcases h2 with ⟨kk, pa, pc, hkk, hs, rfl, hin, _⟩ | ⟨hno, rfl⟩
      · obtain ⟨pb, po, rfl, hpl, _, hpc⟩ := hin.one (v := Value.int .i64) (fun _ => rfl) (i := kk) (by omega)
        rw [way_getD R G st n (by omega)] at hpc
        obtain ⟨y, hy⟩ : ∃ y, y = R.hopTo G st n kk := ⟨_, rfl⟩
        rw [← hy] at hpc
        have HF : Hid (R.finL G n (k + 1) = R.finL G n k ++ [y]) := fin_some (by rw [HST.out.1, hy]; exact end_stop hkk hs)
        clear hy hs hin
        have HA : Hid ((w2.alloc (.cells #[.int .i64 y] 3)).ownsRow w.heap.size 3 1 (.slice a m c) m ((R.finL G n k).map cellI)) := (H2.out.below (below_one _ _)).row
        have HSz : Hid (w.heap.size ≤ w2.heap.size) := H2.out.bel.size
        have hsub : IntKind.i64.wrap (((kk + 1 : Nat) : Int) - 1) = (kk : Int) := by simp [IntKind.wrap, IntKind.bits, IntKind.signed]; omega
        go_wp2_with (at_builtin; refine wpList_own_append _ rfl _ _ 24 24 rfl w.heap.size 3 i0 _ 8 Tryz.underlying24 hif hz0 hz1 hz2 rfl _ _ _ rfl HA.out _ 1 [cellI y] rfl (src_oneI w2 y) ?c3 ?c4 ?c5 ?_)
        case c3 => unfold maxLen; omega
        case c4 => omega
        case c5 => have := HSz.out; simp; omega
        intro v' w3 ha
        obtain ⟨a', c', rfl⟩ := ha.shape
        have H3 : Hid (Gi w w3 (.slice a' (m + 1) c') (m + 1) (R.finL G n (k + 1))) := by
          have := (H2.out.below (below_one _ _)).app ha
          rw [HF.out]; exact this
        clear ha HA HSz H2 hpc hpl
        go_wp2
        go_roundg (64 - (k + 1))
        case measure => omega
        case rel => exact ⟨k + 1, m + 1, a', c', by go_num, by simp, by omega, by omega, rfl, H3⟩
      · have HF : Hid (R.finL G n (k + 1) = R.finL G n k) := fin_none (by rw [HST.out.1]; exact end_none hno)
        clear hno
        go_wp2
        go_roundg (64 - (k + 1))
        case measure => omega
        case rel => exact ⟨k + 1, m, a, c, by go_num, rfl, by omega, by omega, rfl, by rw [HF.out]; exact H2.out⟩
    · obtain rfl : k = 64 := by omega
      clear hfx
      go_upto_region 11 with fail
      have HCP : Hid (∀ W, Below wr.heap.size wr W → Calls Tryz.prog 48 #[.slice a m c] W fun e w' => ∃ j w9, e = .returned (.slice a j c) ∧ (Instr.mapUpdate 93 (.map (some gm)) (.int .i64 n) (.slice a j c)).run Tryz.prog w' = .ok () w9 ∧ w'.cell? ⟨f, 1, none⟩ = some (.map (some gm)) ∧ f < w'.heap.size ∧ FgAt w9 f r gm (R.fixG G n) ∧ Kp w w9 gm gm) := fun W hW => by
        refine (compact_gi w W a m c (R.finL G n 64) (HG.out.below hW) (fin_i64 H.out.2.2.1 H.out.2.2.2 64) (by omega)).mono ?_
        rintro e w' ⟨j, he, h1, h2, h3, h4, h5⟩
        have hfb := H.out.2.1.below h5
        obtain ⟨w9, p1, p2, p3⟩ := hfb.put n h1 h2 h3 h4
        exact ⟨j, w9, he, p1, hfb.c1, hfb.lt.1, p2, (Kp.ofBelow h5).trans p3⟩
      go_region_with ((go_at_call 48; refine Calls.mono (HCP.out _ (by exact ⟨rfl, rfl, rfl, Nat.le_refl _, fun _ _ => rfl⟩)) ?_; rintro e wc ⟨j, w9, rfl, hput, d1, dl, hfg, hkp⟩))
      all_goals
        go_wp2
        go_ret
        exact ⟨rfl, hfg, hkp⟩
theorem fix_dead (r gp gk f gm : Nat) (R : Rg) (G : Int → List Int) (n : Int) (w : World) (h : RingAt w r gp gk R) (hf : FgAt w f r gm G) (hn : R.lives n = false) :
    Calls Tryz.prog 15 #[.pointer (some ⟨f, 0, none⟩), .int .i64 n] w fun e w' => e = .returned (.iface 57 (.int .i64 6)) ∧ Below w.heap.size w w' := by
  have H : Hid (RingAt w r gp gk R ∧ R.lives n = false) := ⟨h, hn⟩
  have c0 := hf.c0
  have cl := hf.lt.1
  clear h hf hn
  go_enter Tryz.func15, Tryz.ntmps15
  go_wp2_with (go_at_call 38; refine (lives_r r gp gk R n _ H.out.1).mono ?_; rintro e w1 ⟨rfl, b1⟩; rw [H.out.2])
  go_ret
  exact ⟨rfl, b1⟩
/-- Fingers that all have asked for. -/
def Rg.roundG (R : Rg) (G : Int → List Int) : Int → List Int := R.live.foldl R.fixG G

set_option maxRecDepth 100000 in
set_option maxHeartbeats 4000000 in
theorem fround_r (w wr : World) (r gp gk f gm : Nat) (R : Rg) (G : Int → List Int) (h : Rt w wr r gp gk f gm R G) :
    Calls Tryz.prog 12 #[.pointer (some ⟨f, 0, none⟩)] wr fun e w' => e = .returned (.tuple #[]) ∧ Rt w w' r gp gk f gm R (R.roundG G) := by
  have H : Hid (Rt w wr r gp gk f gm R G) := h
  have c0 := h.fg.c0
  have cl := h.fg.lt.1
  have hll : R.live.length ≤ 32 := liveTo_len R 32
  obtain ⟨n, hn⟩ : ∃ n, n = R.live.length := ⟨_, rfl⟩
  rw [← hn] at hll
  have HN : Hid (n = R.live.length) := hn
  clear h hn
  go_enter Tryz.func12, Tryz.ntmps12
  go_wp2_with fail
  refine (live_r r gp gk R _ H.out.rn.ring).mono ?_
  rintro e w1 ⟨la, lc, rfl, hla, _, b1⟩
  rw [← HN.out] at hla ⊢
  have H1 : Hid (Rt w w1 r gp gk f gm R G ∧ InIn w1 la n R.live) := ⟨H.out.below b1, hla⟩
  clear b1 hla c0 cl
  go_wp2
  go_loopg [10] n (fun kx s wx => ∃ i : Nat, s = .int .i64 i ∧ i ≤ n ∧ kx = n - i ∧ Hid (Rt w wx r gp gk f gm R ((R.live.take i).foldl R.fixG G) ∧ InIn wx la n R.live))
  case atStart => exact ⟨0, rfl, Nat.zero_le _, rfl, H1⟩
  case round =>
    obtain ⟨i, rfl, hi, rfl, HB⟩ := hrel
    clear H1
    by_cases hlt : i < n
    · have hiI : (0 : Int) ≤ (i : Int) ∧ (i : Int) < (n : Int) := by omega
      obtain ⟨lb, lo, rfl, hll2, _, hlc⟩ := HB.out.2.one (v := Value.int .i64) (fun _ => rfl) (i := i) hlt
      have hil : i < R.live.length := by have := HN.out; omega
      have hmem : R.live.getD i 0 ∈ R.live := by rw [List.getD_eq_getElem?_getD, List.getElem?_eq_getElem hil]; simp
      have htk : R.live.take (i + 1) = R.live.take i ++ [R.live.getD i 0] := by
        rw [List.take_add_one, List.getD_eq_getElem?_getD, List.getElem?_eq_getElem hil]; rfl
      obtain ⟨y, hy⟩ : ∃ y, y = R.live.getD i 0 := ⟨_, rfl⟩
      rw [← hy] at hlc hmem htk
      have HY : Hid (R.lives y = true ∧ R.live.take (i + 1) = R.live.take i ++ [y]) := ⟨((mem_live R _).1 hmem).2.2, htk⟩
      clear hy hmem htk hil
      go_wp2_with (go_at_call 15; refine (fix_r r gp gk f gm R _ y _ HB.out.1.rn.ring HB.out.1.fg HB.out.1.rn.inv HY.out.1).mono ?_; rintro e w2 ⟨rfl, h2, k2⟩)
      go_roundg (n - (i + 1))
      case measure => omega
      case rel =>
        obtain ⟨m, hm, _⟩ := HB.out.1.fg.map
        refine ⟨i + 1, by go_num, by omega, rfl, ⟨?_, InRow.kp HB.out.2 k2 hm hm⟩⟩
        rw [HY.out.2, List.foldl_append]
        exact HB.out.1.kg h2 k2
    · obtain rfl : i = n := by omega
      go_wp2
      go_end0
      refine ⟨rfl, ?_⟩
      have := HB.out.1
      rw [List.take_of_length_le (by have := HN.out; omega)] at this
      exact this
end Go.Proofs.YtgiiadjocfnhlabGreatDoor

/- Layer 12's answers that the document fixes. -/
namespace Go.Proofs.YtgiiadjocfnhlabGreatDoor
open Go.ChangeShapes Go.WideShapes Go.ChangeAt Go.RowKit Go.Deep
set_option linter.unusedVariables false

def G0 : Int → List Int := fun _ => []
theorem hopA1 : ringA.hopTo G0 35 0 1 = 2 := by kernel_rfl
theorem hopA2 : ringA.hopTo G0 35 0 2 = 3 := by kernel_rfl
theorem hopA3 : ringA.hopTo G0 35 0 3 = 3 := by kernel_rfl
theorem hopB1 : ringA.hopTo G0 15 1 1 = 1 := by kernel_rfl
theorem wayA : ringA.stops G0 35 0 2 := by
  refine ⟨fun j hj => ?_, by rw [hopA3, hopA2]⟩
  rcases (show j = 0 ∨ j = 1 by omega) with rfl | rfl
  · rw [hopA1]; show (2 : Int) ≠ 0; omega
  · rw [hopA2, hopA1]; omega
theorem wayB : ringA.stops G0 15 1 0 := ⟨fun j hj => absurd hj (Nat.not_lt_zero _), hopB1⟩
theorem wayA' : ringA.way G0 35 0 3 = [0, 2, 3] := by kernel_rfl
theorem wayB' : ringA.way G0 15 1 1 = [1] := by kernel_rfl
theorem pathA (r gp gk f gm : Nat) (w : World) (h : RingAt w r gp gk ringA) (hf : FgAt w f r gm G0) :
    Calls Tryz.prog 21 #[.pointer (some ⟨f, 0, none⟩), .int .i64 0, .int .u64 35] w fun e w' => ∃ a c, e = .returned (.tuple #[.slice a 3 c, .nilIface]) ∧ InIn w' a 3 [0, 2, 3] ∧ Below w.heap.size w w' := by
  refine (path_r r gp gk f gm ringA G0 0 35 w h hf ringA_inv (by unfold Plc; omega) (ringA_inv.base 0 (by omega) (by omega))).mono ?_
  rintro e w' ⟨q, hb⟩
  rcases q with ⟨k, a, c, _, hs, he, hin, _⟩ | ⟨hno, _⟩
  · obtain rfl : k = 2 := stops_uniq hs wayA
    exact ⟨a, c, he, by rw [← wayA']; exact hin, hb⟩
  · exact absurd wayA.2 (hno 2 (by omega))
theorem pathB (r gp gk f gm : Nat) (w : World) (h : RingAt w r gp gk ringA) (hf : FgAt w f r gm G0) :
    Calls Tryz.prog 21 #[.pointer (some ⟨f, 0, none⟩), .int .i64 1, .int .u64 15] w fun e w' => ∃ a c, e = .returned (.tuple #[.slice a 1 c, .nilIface]) ∧ InIn w' a 1 [1] ∧ Below w.heap.size w w' := by
  refine (path_r r gp gk f gm ringA G0 1 15 w h hf ringA_inv (by unfold Plc; omega) (ringA_inv.base 1 (by omega) (by omega))).mono ?_
  rintro e w' ⟨q, hb⟩
  rcases q with ⟨k, a, c, _, hs, he, hin, _⟩ | ⟨hno, _⟩
  · obtain rfl : k = 0 := stops_uniq hs wayB
    exact ⟨a, c, he, by rw [← wayB']; exact hin, hb⟩
  · exact absurd wayB.2 (hno 0 (by omega))
theorem ints023 : intsB [0, 2, 3] [0, 2, 3] = true := by kernel_rfl
theorem ints1 : intsB [1] [1] = true := by kernel_rfl
set_option maxRecDepth 100000 in
set_option maxHeartbeats 4000000 in
theorem awake12_any (w : World) : Calls Tryz.prog 10 #[] w fun e w' => e = .returned (.bool true) ∧ Below w.heap.size w w' := by
  go_enter Tryz.func10, Tryz.ntmps10
  go_wp2_with fail
  refine (base_r w).mono ?_
  rintro e w1 ⟨rfl, h1, b1⟩
  go_wp2_with fail
  refine (new_base _ _ _ h1).mono ?_
  rintro e w2 ⟨r, gp, gk, rfl, hr, l1, l2, l3, b2⟩
  have H2 : Hid (Rn w w2 r gp gk ringA) := ⟨hr, ringA_inv, b1.trans (b2.mono b1.size), Nat.le_trans b1.size l2, Nat.le_trans b1.size l3⟩
  clear h1 b1 hr l1 l2 l3 b2
  go_wp2_with fail
  refine (fnew_r w w2 r gp gk ringA H2.out).mono ?_
  rintro e w3 ⟨f, gm, rfl, h3⟩
  have H3 : Hid (Rt w w3 r gp gk f gm ringA G0) := h3
  clear h3 H2
  go_wp2_with fail
  refine (pathA r gp gk f gm _ H3.out.rn.ring H3.out.fg).mono ?_
  rintro e w4 ⟨a4, c4, rfl, h4, b4⟩
  have H4 : Hid (Rt w w4 r gp gk f gm ringA G0 ∧ InIn w4 a4 3 [0, 2, 3]) := ⟨H3.out.below b4, h4⟩
  clear h4 b4 H3
  go_wp2_with fail
  refine (pathB r gp gk f gm _ H4.out.1.rn.ring H4.out.1.fg).mono ?_
  rintro e w5 ⟨a5, c5, rfl, h5, b5⟩
  have H5 : Hid (Below w.heap.size w w5 ∧ InIn w5 a4 3 [0, 2, 3] ∧ InIn w5 a5 1 [1]) := ⟨(H4.out.1.below b5).rn.bel, H4.out.2.below (Nat.le_refl _) b5, h5⟩
  clear h5 b5 H4
  go_wp2_with fail
  refine (ints_any a4 3 c4 [0, 2, 3] (some ⟨w5.heap.size, 0, none⟩) 3 3 [0, 2, 3] _ (H5.out.2.1.below (Nat.le_refl _) (below_one _ _)) (in_list (v := Value.int .i64) (T := 3) (arr := #[.int .i64 0, .int .i64 2, .int .i64 3]) (fun _ => rfl) [0, 2, 3] rfl (heap_alloc_new w5 _) (by simp [i64]) (by decide))).mono ?_
  rintro e w6 ⟨rfl, b6⟩
  rw [ints023]
  have b56 : Below w5.heap.size w5 w6 := (below_one _ _).trans (b6.mono (by simp))
  have H6 : Hid (Below w.heap.size w w6 ∧ InIn w6 a5 1 [1]) := ⟨H5.out.1.trans (b56.mono H5.out.1.size), H5.out.2.2.below (Nat.le_refl _) b56⟩
  clear b6 b56 H5
  go_wp2_with fail
  refine (ints_any a5 1 c5 [1] (some ⟨w6.heap.size, 0, none⟩) 1 1 [1] _ (H6.out.2.below (Nat.le_refl _) (below_one _ _)) (in_list (v := Value.int .i64) (T := 3) (arr := #[.int .i64 1]) (fun _ => rfl) [1] rfl (heap_alloc_new w6 _) (by simp [i64]) (by decide))).mono ?_
  rintro e w7 ⟨rfl, b7⟩
  rw [ints1]
  have b67 : Below w6.heap.size w6 w7 := (below_one _ _).trans (b7.mono (by simp))
  go_wp2
  go_ret
  exact ⟨rfl, H6.out.1.trans (b67.mono H6.out.1.size)⟩
end Go.Proofs.YtgiiadjocfnhlabGreatDoor

/- Ways where all is as it should be. -/
namespace Go.Proofs.YtgiiadjocfnhlabGreatDoor
open Go.ChangeShapes Go.WideShapes Go.ChangeAt Go.RowKit Go.Deep
set_option linter.unusedVariables false

theorem path_calm (r gp gk f gm : Nat) (R : Rg) (G : Int → List Int) (n x : Int) (w : World) (h : RingAt w r gp gk R) (hf : FgAt w f r gm G) (hg : Rgt 3 R) (hx : Plc x) (hn : R.lives n = true) :
    Calls Tryz.prog 21 #[.pointer (some ⟨f, 0, none⟩), .int .i64 n, .int .u64 x] w fun e w' =>
      ∃ (k : Nat) (a : Option Addr) (c : Nat), k < R.live.length ∧ R.stops G x n k ∧ e = .returned (.tuple #[.slice a (k + 1) c, .nilIface]) ∧ InIn w' a (k + 1) (R.way G x n (k + 1)) ∧ Below w.heap.size w w' := by
  obtain ⟨k, hk, hs⟩ := way_ends (G := G) hg.1 hx hg.2.1 hn
  have hll : R.live.length ≤ 32 := liveTo_len R 32
  refine (path_r r gp gk f gm R G n x w h hf hg.1 hx hn).mono ?_
  rintro e w' ⟨q, hb⟩
  rcases q with ⟨k', a, c, _, hs', he, hin, _⟩ | ⟨hno, _⟩
  · obtain rfl : k' = k := stops_uniq hs' hs
    exact ⟨k', a, c, hk, hs, he, hin, hb⟩
  · exact absurd hs.2 (hno k (by omega))
theorem next_head {R : Rg} (h : Inv R) {G : Int → List Int} {x n : Int} (hn : R.lives n = true) (h1 : ¬ (x = R.idOf n ∨ R.owns n x = true)) (h2 : inB x (R.idOf n) (R.idOf (R.head n)) = true) : R.nextTo G x n = R.head n := by
  unfold Rg.nextTo
  rw [h.id n hn]
  have e : (x == R.idOf n || R.owns n x) = false := by
    have q1 : ¬ x = R.idOf n := fun q => h1 (.inl q)
    have q2 : ¬ R.owns n x = true := fun q => h1 (.inr q)
    simp [q1, q2]
  rw [e, h2]; rfl
theorem dist_one {a b x : Int} (ha : Plc a) (hb : Plc b) (hne : a ≠ b) (hx : x = (a + 1) % 18446744073709551616) : dist a x ≤ dist a b := by
  unfold Plc at ha hb
  unfold dist
  subst hx
  omega
/-- The place behind one's own is the next one's. -/
theorem way_next {R : Rg} {C : List Int} (h : Rgt 3 R) (c : Cir R C) (G : Int → List Int) {j : Nat} (hj : j < C.length) : R.stops G ((R.idOf (C.getD j 0) + 1) % 18446744073709551616) (C.getD j 0) 1 ∧ R.hopTo G ((R.idOf (C.getD j 0) + 1) % 18446744073709551616) (C.getD j 0) 1 = C.getD ((j + 1) % C.length) 0 := by
  have hi := h.1
  have h4 := c.four hi
  have hn := c.lv hj
  have ha := c.adj hi hj
  obtain ⟨g1, g2⟩ := h.2.1 _ _ ha
  have hg : ∀ j, j < C.length → (C.map R.idOf).getD j 0 = R.idOf (C.getD j 0) := fun j hj => by simp [List.getD, hj]
  have hr : (C.map R.idOf).Pairwise (· < ·) := List.pairwise_map.2 c.rise
  have hu : ∀ j : Nat, Plc ((C.map R.idOf).getD j 0) := fun j => by
    by_cases q : j < C.length
    · rw [hg j q]; exact hi.u _
    · have e : (C.map R.idOf).getD j 0 = 0 := by simp [List.getD, List.getElem?_eq_none (by simp; omega : (C.map R.idOf).length ≤ j)]
      rw [e]; unfold Plc; omega
  obtain ⟨x, hx⟩ : ∃ x, x = (R.idOf (C.getD j 0) + 1) % 18446744073709551616 := ⟨_, rfl⟩
  have hxp : Plc x := by rw [hx]; unfold Plc; omega
  have hon := owner_next hr hu (i := j) (by simpa using hj)
  rw [hg j hj, List.length_map, ← hx] at hon
  rw [← hx]
  have hnf : ¬ (x = R.idOf (C.getD j 0) ∨ R.owns (C.getD j 0) x = true) := fun q => by
    obtain ⟨k, hk, h1, h2⟩ := stop_owner (G := G) h c hxp hn (((next_spec hi hxp hn).2.1).2 q)
    have e := c.inj hk hj h2
    rw [h1, e] at hon
    have : j = (j + 1) % C.length := by omega
    by_cases q : j + 1 < C.length
    · rw [Nat.mod_eq_of_lt q] at this; omega
    · rw [show j + 1 = C.length by omega, Nat.mod_self] at this; omega
  have un := hi.u (C.getD j 0)
  have ut := hi.u (C.getD ((j + 1) % C.length) 0)
  have hne : R.idOf (C.getD j 0) ≠ R.idOf (C.getD ((j + 1) % C.length) 0) := fun e => ha.2.2.1 (hi.inj _ _ hn ha.2.1 e)
  have hin : inB x (R.idOf (C.getD j 0)) (R.idOf (C.getD ((j + 1) % C.length) 0)) = true := by
    have q1 : x ≠ R.idOf (C.getD j 0) := fun e => hnf (.inl e)
    rw [in_of x _ _ q1 hne]
    have := dist_one un ut hne hx
    simpa using this
  have e1 : R.nextTo G x (C.getD j 0) = C.getD ((j + 1) % C.length) 0 := by
    rw [next_head hi hn hnf (by rw [g1]; exact hin), g1]
  have e2 : R.nextTo G x (C.getD ((j + 1) % C.length) 0) = C.getD ((j + 1) % C.length) 0 := by
    refine ((next_spec hi hxp ha.2.1).2.1).2 (.inr ?_)
    unfold Rg.owns
    rw [g2, hi.id _ ha.2.1]
    have := hi.rng _ hn
    have q : (C.getD j 0 != -1) = true := bne_iff_ne.2 (fun e => by omega)
    rw [q, hn, hin]; rfl
  have h1 : R.hopTo G x (C.getD j 0) 1 = C.getD ((j + 1) % C.length) 0 := e1
  refine ⟨⟨fun i hii => ?_, ?_⟩, h1⟩
  · obtain rfl : i = 0 := by omega
    rw [h1]
    exact fun e => ha.2.2.1 e.symm
  · show R.nextTo G x (R.hopTo G x (C.getD j 0) 1) = _
    rw [h1]; exact e2
theorem way_own {R : Rg} (hi : Inv R) (G : Int → List Int) {n : Int} (hn : R.lives n = true) : R.stops G (R.idOf n) n 0 :=
  ⟨fun j hj => absurd hj (Nat.not_lt_zero _), ((next_spec hi (hi.u n) hn).2.1).2 (.inl rfl)⟩
end Go.Proofs.YtgiiadjocfnhlabGreatDoor

/- There is a circle; the owner of the place behind one's own. No program in sight. -/
namespace Go.Proofs.YtgiiadjocfnhlabGreatDoor
set_option linter.unusedVariables false
theorem cir_ex {R : Rg} (h : Inv R) : ∃ C, Cir R C := by
  have hp : (R.live.mergeSort (fun a b => decide (R.idOf a ≤ R.idOf b))).Perm R.live := List.mergeSort_perm _ _
  have hs : (R.live.mergeSort (fun a b => decide (R.idOf a ≤ R.idOf b))).Pairwise (fun a b => decide (R.idOf a ≤ R.idOf b) = true) :=
    List.pairwise_mergeSort (fun a b c h1 h2 => by simp at *; omega) (fun a b => by simp; omega) _
  generalize R.live.mergeSort (fun a b => decide (R.idOf a ≤ R.idOf b)) = C at hp hs
  have hnd : C.Nodup := hp.nodup_iff.2 (live_nodup R 32)
  have hlv : ∀ x, x ∈ C ↔ R.lives x = true := fun x => by
    rw [hp.mem_iff]
    exact ⟨fun q => ((mem_live R x).1 q).2.2, fun q => h.in_live q⟩
  refine ⟨C, ?_, hlv, hp.length_eq⟩
  refine List.Pairwise.imp_of_mem (R := fun a b => decide (R.idOf a ≤ R.idOf b) = true ∧ a ≠ b) (fun ha hb q => ?_) (hs.and hnd)
  have h1 := of_decide_eq_true q.1
  rcases Int.lt_or_eq_of_le h1 with q2 | q2
  · exact q2
  · exact absurd (h.inj _ _ ((hlv _).1 ha) ((hlv _).1 hb) q2) q.2
/-- The way to the place behind one's own: to the head, and no further. -/
theorem way_head {R : Rg} (h : Rgt 3 R) (G : Int → List Int) {y : Int} (hy : R.lives y = true) : R.stops G ((R.idOf y + 1) % 18446744073709551616) y 1 ∧ R.hopTo G ((R.idOf y + 1) % 18446744073709551616) y 1 = R.head y := by
  obtain ⟨C, c⟩ := cir_ex h.1
  obtain ⟨j, hj, rfl⟩ := c.at_ hy
  have q := way_next h c G hj
  exact ⟨q.1, by rw [q.2, (h.2.1 _ _ (c.adj h.1 hj)).1]⟩
/-- The owner of the place behind one's own is the head. -/
theorem owner_head {R : Rg} {C : List Int} (h : Rgt 3 R) (c : Cir R C) {y : Int} (hy : R.lives y = true) : ∃ k : Nat, k < C.length ∧ ownerN (C.map R.idOf) ((R.idOf y + 1) % 18446744073709551616) = k ∧ C.getD k 0 = R.head y := by
  obtain ⟨j, hj, rfl⟩ := c.at_ hy
  have hi := h.1
  have hg : ∀ j, j < C.length → (C.map R.idOf).getD j 0 = R.idOf (C.getD j 0) := fun j hj => by simp [List.getD, hj]
  have hr : (C.map R.idOf).Pairwise (· < ·) := List.pairwise_map.2 c.rise
  have hu : ∀ j : Nat, Plc ((C.map R.idOf).getD j 0) := fun j => by
    by_cases q : j < C.length
    · rw [hg j q]; exact hi.u _
    · have e : (C.map R.idOf).getD j 0 = 0 := by simp [List.getD, List.getElem?_eq_none (by simp; omega : (C.map R.idOf).length ≤ j)]
      rw [e]; unfold Plc; omega
  have hon := owner_next hr hu (i := j) (by simpa using hj)
  rw [hg j hj, List.length_map] at hon
  exact ⟨(j + 1) % C.length, Nat.mod_lt _ (by omega), hon, by rw [(h.2.1 _ _ (c.adj hi hj)).1]⟩
end Go.Proofs.YtgiiadjocfnhlabGreatDoor

/- route.Of; wigwaglaw12.twice; the fingers where all is as it should be. -/
namespace Go.Proofs.YtgiiadjocfnhlabGreatDoor
open Go.ChangeShapes Go.WideShapes Go.ChangeAt Go.RowKit Go.Deep
set_option linter.unusedVariables false

set_option maxHeartbeats 2000000 in
theorem fof_r (f r gm : Nat) (G : Int → List Int) (n : Int) (w : World) (hf : FgAt w f r gm G) (hl : (G n).length ≤ 1000) :
    Calls Tryz.prog 19 #[.pointer (some ⟨f, 0, none⟩), .int .i64 n] w fun e w' => ∃ a c, e = .returned (.slice a (G n).length c) ∧ InIn w' a (G n).length (G n) ∧ Below w.heap.size w w' := by
  obtain ⟨ag, lg, cg, hag, hn0, _, _, hlk⟩ := hf.ask n
  have hlg : (G n).length = lg := hag.1
  have k0 := hlk w (Below.refl _ _)
  have c1 := hf.c1
  have cl := hf.lt.1
  have HC : Hid _ := clone_i ag lg cg (G n) w hag hn0 (by omega)
  rw [hlg]
  clear hf hag hlk hn0 hlg
  go_enter Tryz.func19, Tryz.ntmps19
  go_wp2_with fail
  refine Calls.mono HC.out ?_
  rintro e w2 ⟨a', c', rfl, h1, _, _, _, _, b2⟩
  go_wp2
  go_ret
  first
    | exact ⟨a', c', rfl, h1, b2⟩
    | exact ⟨a', ⟨c', rfl⟩, h1, b2⟩

set_option maxRecDepth 100000 in
set_option maxHeartbeats 4000000 in
theorem twice_r (a : Option Addr) (n c : Nat) (l : List Int) (w : World) (h : InIn w a n l) (hnd : l.Nodup) (hc : n ≤ c) :
    Calls Tryz.prog 36 #[.slice a n c] w fun e w' => e = .returned (.int .i64 0) ∧ Below w.heap.size w w' := by
  have HL : Hid (InIn w a n l) := h
  have hm := h.2.1
  have HND : Hid (∀ i j, i < n → j < n → i ≠ j → l.getD i 0 ≠ l.getD j 0) := fun i j hi hj hne e => by
    have hl : l.length = n := h.1
    rw [List.getD_eq_getElem?_getD, List.getD_eq_getElem?_getD, List.getElem?_eq_getElem (by omega), List.getElem?_eq_getElem (by omega)] at e
    exact hne ((List.getElem_inj hnd).1 (by simpa using e))
  clear h hnd
  go_enter Tryz.func36, Tryz.ntmps36
  go_wp2
  go_loopg [7] n (fun kx s wr => ∃ i : Nat, s = .int .i64 i ∧ i ≤ n ∧ kx = n - i ∧ Hid (Below w.heap.size w wr))
  case atStart => exact ⟨0, rfl, Nat.zero_le _, rfl, (Below.refl _ _ : Below w.heap.size w w)⟩
  case round =>
    obtain ⟨i, rfl, hi, rfl, HB⟩ := hrel
    by_cases hlt : i < n
    · have hiI : (0 : Int) ≤ (i : Int) ∧ (i : Int) < (n : Int) := by omega
      obtain ⟨lb, lo, rfl, hlb, _, hlc⟩ := (HL.out.below (Nat.le_refl _) HB.out).one (v := Value.int .i64) (fun _ => rfl) (i := i) hlt
      have sl1 : ∀ W, (Instr.slice 24 (.slice (some ⟨lb, lo, none⟩) n c) none (some (.int .i64 (i : Int))) none).run Tryz.prog W = .ok (.slice (some ⟨lb, lo, none⟩) i c) W := fun W => by
        simp [go_sem, Tryz.underlying24]
        omega
      go_wp2
      go_loopg [14] i (fun kx s wr2 => ∃ j : Nat, s = .int .i64 j ∧ j ≤ i ∧ kx = i - j ∧ Hid (Below w.heap.size w wr2))
      case atStart => exact ⟨0, rfl, Nat.zero_le _, rfl, HB⟩
      case round =>
        obtain ⟨j, rfl, hj, rfl, HB2⟩ := hrel
        by_cases hjl : j < i
        · have hjI : (0 : Int) ≤ (j : Int) ∧ (j : Int) < (n : Int) := by omega
          have hjI2 : (j : Int) < (i : Int) := by omega
          obtain ⟨lb1, lo1, e1, _, _, u1⟩ := (HL.out.below (Nat.le_refl _) HB2.out).one (v := Value.int .i64) (fun _ => rfl) (i := i) hlt
          obtain ⟨lb2, lo2, e2, hl2, _, u2⟩ := (HL.out.below (Nat.le_refl _) HB2.out).one (v := Value.int .i64) (fun _ => rfl) (i := j) (by omega)
          simp at e1 e2
          obtain ⟨rfl, rfl⟩ := e1
          obtain ⟨rfl, rfl⟩ := e2
          have hne := HND.out i j hlt (by omega) (by omega)
          generalize l.getD i 0 = y at u1 hne
          generalize l.getD j 0 = z at u2 hne
          have eyz : (y == z) = false := by simpa using hne
          clear hlc
          go_wp2_with (go_quiet (fail))
          go_roundg (i - (j + 1))
          case measure => omega
          case rel => exact ⟨j + 1, by go_num, by omega, rfl, below_drew HB2.out _⟩
        · obtain rfl : j = i := by omega
          go_wp2
          go_roundg (n - (j + 1))
          case measure => omega
          case rel => exact ⟨j + 1, by go_num, by omega, rfl, HB2⟩
    · go_wp2
      go_ret
      exact ⟨rfl, HB.out⟩
/-- Where all is as it should be each way ends at the owner, so the fingers are owners. -/
theorem end_calm {R : Rg} (h : Rgt 3 R) {C : List Int} (c : Cir R C) (G : Int → List Int) {x n : Int} (hx : Plc x) (hn : R.lives n = true) : ∃ k : Nat, k < C.length ∧ ownerN (C.map R.idOf) x = k ∧ R.endG G x 65 n = some (C.getD k 0) := by
  obtain ⟨k, hk, hs⟩ := way_ends (G := G) h.1 hx h.2.1 hn
  have hll : R.live.length ≤ 32 := liveTo_len R 32
  obtain ⟨j, hj, h1, h2⟩ := stop_owner (G := G) h c hx (hop_lives h.1 hx hn k) hs.2
  exact ⟨j, hj, h1, by rw [end_stop (by omega) hs, h2]⟩
/-- The owners of the first k places of a member. -/
def ownL (R : Rg) (C : List Int) (n : Int) (k : Nat) : List Int := (List.range k).map fun (j : Nat) => C.getD (ownerN (C.map R.idOf) (startN (R.idOf n) j)).toNat 0
theorem fin_calm {R : Rg} (h : Rgt 3 R) {C : List Int} (c : Cir R C) (G : Int → List Int) {n : Int} (hn : R.lives n = true) (k : Nat) : R.finL G n k = ownL R C n k := by
  induction k with
  | zero => rfl
  | succ k ih =>
    obtain ⟨j, hj, h1, h2⟩ := end_calm h c G (start_rng (R.idOf n) k (h.1.u n)) hn
    rw [fin_some h2, ih]
    simp [ownL, List.range_succ, h1]
/-- What stays when runs are taken together. -/
def dedup : List Int → List Int → List Int
  | acc, [] => acc
  | acc, x :: l => dedup (if acc.getLast? = some x then acc else acc ++ [x]) l
def runs (l : List Int) : List Int := dedup [] l
theorem dedup_append (acc l : List Int) (x : Int) : dedup acc (l ++ [x]) = if (dedup acc l).getLast? = some x then dedup acc l else dedup acc l ++ [x] := by
  induction l generalizing acc with
  | nil => rfl
  | cons y l ih => exact ih _
theorem compact_snoc (l : List Int) (x : Int) : Lib.compact (l ++ [x]) = if l.getLast? = some x then Lib.compact l else Lib.compact l ++ [x] := by
  have hk : ∀ j, j < l.length → Lib.keeps (l ++ [x]).toArray j = Lib.keeps l.toArray j := fun j hj => by
    have e1 : (l ++ [x]).toArray[j]! = l.toArray[j]! := by simp [hj, List.getElem?_append_left hj]
    have e2 : (l ++ [x]).toArray[j - 1]! = l.toArray[j - 1]! := by
      have : j - 1 < l.length := by omega
      simp [this, List.getElem?_append_left this]
    unfold Lib.keeps
    rw [e1, e2]
  have hmap : ∀ j ∈ (List.range l.length).filter (Lib.keeps l.toArray), (l ++ [x]).toArray[j]! = l.toArray[j]! := fun j hj => by
    have hj' : j < l.length := by have := (List.mem_filter.1 hj).1; simpa using this
    simp [hj', List.getElem?_append_left hj']
  have hf : (List.range l.length).filter (Lib.keeps (l ++ [x]).toArray) = (List.range l.length).filter (Lib.keeps l.toArray) := List.filter_congr (fun j hj => hk j (by simpa using hj))
  have hx : (l ++ [x]).toArray[l.length]! = x := by simp
  unfold Lib.compact Lib.compactUpTo
  rw [List.length_append, List.length_singleton, List.range_succ, List.filter_append, hf, List.map_append, List.map_congr_left hmap]
  by_cases h0 : l.length = 0
  · have : l = [] := List.eq_nil_of_length_eq_zero h0
    subst this
    simp [Lib.keeps]
  · have hp : 0 < l.length := by omega
    have hlast : (l ++ [x]).toArray[l.length - 1]! = l.toArray[l.length - 1]! := by
      have : l.length - 1 < l.length := by omega
      simp [this, List.getElem?_append_left this]
    have hgl : l.getLast? = some l.toArray[l.length - 1]! := by
      have : l.length - 1 < l.length := by omega
      rw [List.getLast?_eq_getElem?]
      simp [this]
    rw [hgl]
    by_cases q : l.toArray[l.length - 1]! = x
    · have hkk : Lib.keeps (l ++ [x]).toArray l.length = false := Lib.keeps_neg hp (by rw [hx, hlast, q])
      rw [if_pos (by rw [q])]
      simp [hkk]
    · have hkk : Lib.keeps (l ++ [x]).toArray l.length = true := Lib.keeps_pos (by rw [hx, hlast]; exact Ne.symm q)
      rw [if_neg (fun e => q (Option.some.inj e))]
      simp [hkk]
theorem compact_last : ∀ (n : Nat) (l : List Int), l.length = n → (Lib.compact l).getLast? = l.getLast? := by
  intro n
  induction n with
  | zero => intro l hl; have : l = [] := List.eq_nil_of_length_eq_zero hl; subst this; rfl
  | succ n ih =>
    intro l hl
    rcases List.eq_nil_or_concat l with h0 | ⟨m, x, h0⟩
    · subst h0; simp at hl
    · have h1 : l = m ++ [x] := by rw [h0]; simp
      subst h1
      have hm : m.length = n := by simpa using hl
      rw [compact_snoc]
      by_cases q : m.getLast? = some x
      · rw [if_pos q, ih m hm, q]; simp
      · rw [if_neg q]; simp
/-- slices.Compact is what the law's loop does. -/
theorem compact_runs (n : Nat) : ∀ l : List Int, l.length = n → Lib.compact l = runs l := by
  induction n with
  | zero => intro l hl; have : l = [] := List.eq_nil_of_length_eq_zero hl; subst this; rfl
  | succ n ih =>
    intro l hl
    rcases List.eq_nil_or_concat l with h0 | ⟨m, x, h0⟩
    · subst h0; simp at hl
    · have h1 : l = m ++ [x] := by rw [h0]; simp
      subst h1
      have hm : m.length = n := by simpa using hl
      unfold runs
      rw [compact_snoc, dedup_append, ← compact_last n m hm, ih m hm]
      rfl
end Go.Proofs.YtgiiadjocfnhlabGreatDoor

/- RouteCalm's parts: a round of fingers keeps all but its map; a circle in memory; fingers behind a round. -/
namespace Go.Proofs.YtgiiadjocfnhlabGreatDoor
open Go.ChangeShapes Go.WideShapes Go.ChangeAt Go.RowKit Go.Deep
set_option linter.unusedVariables false

set_option maxRecDepth 100000 in
set_option maxHeartbeats 4000000 in
theorem fround_k (w wr : World) (r gp gk f gm : Nat) (R : Rg) (G : Int → List Int) (h : Rt w wr r gp gk f gm R G) :
    Calls Tryz.prog 12 #[.pointer (some ⟨f, 0, none⟩)] wr fun e w' => e = .returned (.tuple #[]) ∧ Rt w w' r gp gk f gm R (R.roundG G) ∧ Kp wr w' gm gm := by
  have H : Hid (Rt w wr r gp gk f gm R G) := h
  have c0 := h.fg.c0
  have cl := h.fg.lt.1
  have hll : R.live.length ≤ 32 := liveTo_len R 32
  obtain ⟨n, hn⟩ : ∃ n, n = R.live.length := ⟨_, rfl⟩
  rw [← hn] at hll
  have HN : Hid (n = R.live.length) := hn
  clear h hn
  go_enter Tryz.func12, Tryz.ntmps12
  go_wp2_with fail
  refine (live_r r gp gk R _ H.out.rn.ring).mono ?_
  rintro e w1 ⟨la, lc, rfl, hla, _, b1⟩
  rw [← HN.out] at hla ⊢
  have H1 : Hid (Rt w w1 r gp gk f gm R G ∧ InIn w1 la n R.live ∧ Kp wr w1 gm gm) := ⟨H.out.below b1, hla, Kp.ofBelow b1⟩
  clear b1 hla c0 cl
  go_wp2
  go_loopg [10] n (fun kx s wx => ∃ i : Nat, s = .int .i64 i ∧ i ≤ n ∧ kx = n - i ∧ Hid (Rt w wx r gp gk f gm R ((R.live.take i).foldl R.fixG G) ∧ InIn wx la n R.live ∧ Kp wr wx gm gm))
  case atStart => exact ⟨0, rfl, Nat.zero_le _, rfl, H1⟩
  case round =>
    obtain ⟨i, rfl, hi, rfl, HB⟩ := hrel
    clear H1
    by_cases hlt : i < n
    · have hiI : (0 : Int) ≤ (i : Int) ∧ (i : Int) < (n : Int) := by omega
      obtain ⟨lb, lo, rfl, hll2, _, hlc⟩ := HB.out.2.1.one (v := Value.int .i64) (fun _ => rfl) (i := i) hlt
      have hil : i < R.live.length := by have := HN.out; omega
      have hmem : R.live.getD i 0 ∈ R.live := by rw [List.getD_eq_getElem?_getD, List.getElem?_eq_getElem hil]; simp
      have htk : R.live.take (i + 1) = R.live.take i ++ [R.live.getD i 0] := by
        rw [List.take_add_one, List.getD_eq_getElem?_getD, List.getElem?_eq_getElem hil]; rfl
      obtain ⟨y, hy⟩ : ∃ y, y = R.live.getD i 0 := ⟨_, rfl⟩
      rw [← hy] at hlc hmem htk
      have HY : Hid (R.lives y = true ∧ R.live.take (i + 1) = R.live.take i ++ [y]) := ⟨((mem_live R _).1 hmem).2.2, htk⟩
      clear hy hmem htk hil
      go_wp2_with (go_at_call 15; refine (fix_r r gp gk f gm R _ y _ HB.out.1.rn.ring HB.out.1.fg HB.out.1.rn.inv HY.out.1).mono ?_; rintro e w2 ⟨rfl, h2, k2⟩)
      go_roundg (n - (i + 1))
      case measure => omega
      case rel =>
        obtain ⟨m, hm, _⟩ := HB.out.1.fg.map
        refine ⟨i + 1, by go_num, by omega, rfl, ⟨?_, InRow.kp HB.out.2.1 k2 hm hm, HB.out.2.2.trans k2⟩⟩
        rw [HY.out.2, List.foldl_append]
        exact HB.out.1.kg h2 k2
    · obtain rfl : i = n := by omega
      go_wp2
      go_end0
      refine ⟨rfl, ?_, HB.out.2.2⟩
      have := HB.out.1
      rw [List.take_of_length_le (by have := HN.out; omega)] at this
      exact this
/-- Behind a round in the calm each one's fingers are the owners. -/
theorem round_fin {R : Rg} (h : Rgt 3 R) {C : List Int} (c : Cir R C) (G : Int → List Int) {n : Int} (hn : R.lives n = true) : R.roundG G n = runs (ownL R C n 64) := by
  have hk : ∀ (l : List Int) (G : Int → List Int), (∀ y ∈ l, R.lives y = true) → (n ∈ l ∨ G n = runs (ownL R C n 64)) → l.foldl R.fixG G n = runs (ownL R C n 64) := by
    intro l
    induction l with
    | nil => intro G _ q; exact q.resolve_left (fun h => by cases h)
    | cons y l ih =>
      intro G hl q
      refine ih _ (fun z hz => hl z (by simp [hz])) ?_
      by_cases e : n = y
      · refine .inr ?_
        subst e
        show upd G n (Lib.compact (R.finL G n 64)) n = _
        unfold upd
        rw [if_pos rfl, fin_calm h c G hn, compact_runs _ _ rfl]
      · rcases q with q | q
        · rcases List.mem_cons.1 q with q2 | q2
          · exact absurd q2 e
          · exact .inl q2
        · refine .inr ?_
          show upd G y _ n = _
          unfold upd
          rw [if_neg e]; exact q
  exact hk R.live G (fun y hy => ((mem_live R y).1 hy).2.2) (.inl (h.1.in_live hn))
theorem dedup_len : ∀ (l acc : List Int), (dedup acc l).length ≤ acc.length + l.length := by
  intro l
  induction l with
  | nil => intro acc; exact Nat.le_refl _
  | cons x l ih =>
    intro acc
    unfold dedup
    refine Nat.le_trans (ih _) ?_
    split <;> simp <;> omega
theorem runs_snoc (l : List Int) (x : Int) : runs (l ++ [x]) = if (runs l).getLast? = some x then runs l else runs l ++ [x] := dedup_append [] l x
theorem ownL_succ (R : Rg) (C : List Int) (n : Int) (k : Nat) : ownL R C n (k + 1) = ownL R C n k ++ [C.getD (ownerN (C.map R.idOf) (startN (R.idOf n) k)).toNat 0] := by simp [ownL, List.range_succ]
/-- A circle in memory. -/
structure CirM (w : World) (q g : Nat) (b : Option Addr) (c d n : Nat) (C : List Int) (R : Rg) : Prop where
  box : w.heap[q]? = some (.cells #[.slice (some ⟨g, 0, none⟩) n c, .slice b n d] 75 (0, 0))
  mem : InIn w (some ⟨g, 0, none⟩) n C
  ids : IdIn w b n (C.map R.idOf)
theorem CirM.below {w w' : World} {q g : Nat} {b : Option Addr} {c d n : Nat} {C : List Int} {R : Rg} (h : CirM w q g b c d n C R) (hb : Below w.heap.size w w') : CirM w' q g b c d n C R :=
  ⟨(hb.block _ (lt_of_block h.box)).trans h.box, h.mem.below (Nat.le_refl _) hb, h.ids.below (Nat.le_refl _) hb⟩
theorem CirM.kg {w w' : World} {q g : Nat} {b : Option Addr} {c d n : Nat} {C : List Int} {R : Rg} (h : CirM w q g b c d n C R) {gm : Nat} {m : List (Int × Value)} (hm : MpAt w gm m) (k : Kp w w' gm gm) : CirM w' q g b c d n C R := by
  have hq : q ≠ gm := fun e => by
    obtain ⟨_, es, cc, hp, _⟩ := hm
    have := h.box; rw [e, hp] at this; cases this
  refine ⟨(k.block q (lt_of_block h.box) hq hq).trans h.box, InRow.kp h.mem k hm hm, h.ids.1, h.ids.2.1, ?_⟩
  rcases h.ids.2.2 with h0 | ⟨x, o, ha, hlt, hc⟩
  · exact .inl h0
  · by_cases h0 : n = 0
    · exact .inl h0
    have hx := (hc 0 (by omega)).2 0 (by omega)
    have n1 : x ≠ gm := fun e => by rw [e, hm.no_cell] at hx; simp [encU] at hx
    refine .inr ⟨x, o, ha, by have := k.size; omega, fun i hi => ⟨(hc i hi).1, fun j hj => ?_⟩⟩
    rw [World.cell?_of_block (k.block x hlt n1 n1)]
    exact (hc i hi).2 j hj
end Go.Proofs.YtgiiadjocfnhlabGreatDoor

/- route.Path, with the room of what it answers. -/
namespace Go.Proofs.YtgiiadjocfnhlabGreatDoor
open Go.ChangeShapes Go.WideShapes Go.ChangeAt Go.RowKit Go.Deep
set_option linter.unusedVariables false

set_option maxRecDepth 100000 in
set_option maxHeartbeats 4000000 in
theorem path_rc (r gp gk f gm : Nat) (R : Rg) (G : Int → List Int) (n x : Int) (w : World) (h : RingAt w r gp gk R) (hf : FgAt w f r gm G) (hi : Inv R) (hx : Plc x) (hn : R.lives n = true) :
    Calls Tryz.prog 21 #[.pointer (some ⟨f, 0, none⟩), .int .i64 n, .int .u64 x] w fun e w' =>
      ((∃ (k : Nat) (a : Option Addr) (c : Nat), k < 65 ∧ R.stops G x n k ∧ e = .returned (.tuple #[.slice a (k + 1) c, .nilIface]) ∧ InIn w' a (k + 1) (R.way G x n (k + 1)) ∧ k + 1 ≤ c) ∨
       ((∀ k, k < 65 → R.hopTo G x n (k + 1) ≠ R.hopTo G x n k) ∧ e = .returned (.tuple #[.slice none 0 0, .iface 57 (.int .i64 13)]))) ∧ Below w.heap.size w w' := by
  obtain ⟨i0, hif, hz0, hz1, hz2⟩ := info_of Tryz.infoInt
  have H : Hid (RingAt w r gp gk R ∧ FgAt w f r gm G ∧ Inv R ∧ Plc x ∧ R.lives n = true) := ⟨h, hf, hi, hx, hn⟩
  clear h hf hi hx hn
  go_enter Tryz.func21, Tryz.ntmps21
  go_wp2
  go_loopg [1, 8, 11] 65 (fun kx nv wv s wr => ∃ (k : Nat) (m : Int) (a : Option Addr) (c : Nat), s = .int .i64 k ∧ nv = .int .i64 m ∧ wv = .slice a k c ∧ k ≤ 65 ∧ kx = 65 - k ∧ Hid (m = R.hopTo G x n k ∧ Gi w wr (.slice a k c) k (R.way G x n k) ∧ ∀ j, j < k → R.hopTo G x n (j + 1) ≠ R.hopTo G x n j))
  case atStart => exact ⟨0, n, none, 0, rfl, rfl, rfl, by omega, rfl, ⟨rfl, Gi.nil w, fun j hj => absurd hj (Nat.not_lt_zero _)⟩⟩
  case round =>
    obtain ⟨k, m, a, c, rfl, rfl, rfl, hk, rfl, HG⟩ := hrel
    by_cases hlt : k < 65
    · have hkI : (k : Int) < 65 := by omega
      have HL : Hid (R.lives m = true) := by show R.lives m = true; rw [HG.out.1]; exact hop_lives H.out.2.2.1 H.out.2.2.2.1 H.out.2.2.2.2 k
      go_wp2_with fail
      refine (next_some r gp gk f gm R G m x _ (H.out.1.below HG.out.2.1.bel) (H.out.2.1.below HG.out.2.1.bel) H.out.2.2.1 HL.out).mono ?_
      rintro e w2 ⟨rfl, b2⟩
      obtain ⟨m2, hm2⟩ : ∃ m2, m2 = R.nextTo G x m := ⟨_, rfl⟩
      rw [← hm2]
      have HM : Hid (m2 = R.hopTo G x n (k + 1)) := by show m2 = R.nextTo G x (R.hopTo G x n k); rw [← HG.out.1]; exact hm2
      have H2 : Hid (Gi w w2 (.slice a k c) k (R.way G x n k)) := HG.out.2.1.below b2
      clear hm2 b2
      have HA : Hid ((w2.alloc (.cells #[.int .i64 m] 3)).ownsRow w.heap.size 3 1 (.slice a k c) k ((R.way G x n k).map cellI)) := (H2.out.below (below_one _ _)).row
      have HSz : Hid (w.heap.size ≤ w2.heap.size) := H2.out.bel.size
      go_wp2_with (at_builtin; refine wpList_own_append _ rfl _ _ 24 24 rfl w.heap.size 3 i0 _ 8 Tryz.underlying24 hif hz0 hz1 hz2 rfl _ _ _ rfl HA.out _ 1 [cellI m] rfl (src_oneI w2 m) ?c3 ?c4 ?c5 ?_)
      case c3 => unfold maxLen; omega
      case c4 => omega
      case c5 => have := HSz.out; simp; omega
      intro v' w3 ha
      obtain ⟨a', c', rfl⟩ := ha.shape
      have H3 : Hid (Gi w w3 (.slice a' (k + 1) c') (k + 1) (R.way G x n (k + 1))) := by
        have := (H2.out.below (below_one _ _)).app ha
        rw [way_succ, ← HG.out.1]; exact this
      clear ha HA HSz H2
      by_cases he : m2 = m
      · have e1 : (m2 == m) = true := by simpa using he
        have HS : Hid (R.stops G x n k) := ⟨HG.out.2.2, by rw [← HM.out, ← HG.out.1]; exact he⟩
        clear he
        go_wp2
        go_ret2
        have hin := H3.out.in (way_i64 H.out.2.2.1 H.out.2.2.2.1 H.out.2.2.2.2 (k + 1)) (by omega)
        exact ⟨.inl ⟨k, a', c', hlt, HS.out, by simp, hin.1, hin.2.2.1⟩, H3.out.bel⟩
      · have e1 : (m2 == m) = false := by simpa using he
        have HS : Hid (∀ j, j < k + 1 → R.hopTo G x n (j + 1) ≠ R.hopTo G x n j) := fun j hj => by
          by_cases q : j < k
          · exact HG.out.2.2 j q
          · obtain rfl : j = k := by omega
            rw [← HM.out, ← HG.out.1]; exact he
        clear he
        go_wp2
        go_roundg (65 - (k + 1))
        case measure => omega
        case rel => exact ⟨k + 1, m2, a', c', by go_num, rfl, by simp, by omega, rfl, ⟨HM.out, H3.out, HS.out⟩⟩
    · obtain rfl : k = 65 := by omega
      go_wp2
      go_ret2
      exact ⟨.inr ⟨HG.out.2.2, rfl⟩, HG.out.2.1.bel⟩
theorem path_calmc (r gp gk f gm : Nat) (R : Rg) (G : Int → List Int) (n x : Int) (w : World) (h : RingAt w r gp gk R) (hf : FgAt w f r gm G) (hg : Rgt 3 R) (hx : Plc x) (hn : R.lives n = true) :
    Calls Tryz.prog 21 #[.pointer (some ⟨f, 0, none⟩), .int .i64 n, .int .u64 x] w fun e w' =>
      ∃ (k : Nat) (a : Option Addr) (c : Nat), k < R.live.length ∧ R.stops G x n k ∧ e = .returned (.tuple #[.slice a (k + 1) c, .nilIface]) ∧ InIn w' a (k + 1) (R.way G x n (k + 1)) ∧ k + 1 ≤ c ∧ Below w.heap.size w w' := by
  obtain ⟨k, hk, hs⟩ := way_ends (G := G) hg.1 hx hg.2.1 hn
  have hll : R.live.length ≤ 32 := liveTo_len R 32
  refine (path_rc r gp gk f gm R G n x w h hf hg.1 hx hn).mono ?_
  rintro e w' ⟨q, hb⟩
  rcases q with ⟨k', a, c, _, hs', he, hin, hcc⟩ | ⟨hno, _⟩
  · obtain rfl : k' = k := stops_uniq hs' hs
    exact ⟨k', a, c, hk, hs, he, hin, hcc, hb⟩
  · exact absurd hs.2 (hno k (by omega))
end Go.Proofs.YtgiiadjocfnhlabGreatDoor
