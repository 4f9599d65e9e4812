/- Whose a place is: the circle's owners. No program in sight. -/
import Derived.Test.YtmajlldfiiokoaaGreatDoorJoinPeSame
import Derived.Test.YtmajlldfiiokoaaGreatDoorRiseMath
import Derived.Test.YtmajlldfiiokoaaGreatDoorChAll
import Derived.Test.YtmajlldfiiokoaaGreatDoorFam
import Derived.Deep.CutBlock
import Derived.Deep.DeepCutAuto
import Derived.Test.YtmajlldfiiokoaaGreatDoorChHop
import Derived.Test.YtmajlldfiiokoaaGreatDoorJoinTrMath
import Derived.Laws.Bits64
set_option linter.unnecessarySimpa false
namespace Go.Proofs.YtmajlldfiiokoaaGreatDoor
set_option linter.unusedVariables false
theorem first_ge (P : List Int) (x : Int) (m : Nat) : (∀ j, j < m → P.getD j 0 < x) ∨ ∃ k, k < m ∧ (∀ j, j < k → P.getD j 0 < x) ∧ x ≤ P.getD k 0 := by
  induction m with
  | zero => exact .inl (fun j hj => absurd hj (Nat.not_lt_zero _))
  | succ m ih =>
    rcases ih with h | ⟨k, h1, h2, h3⟩
    · by_cases q : P.getD m 0 < x
      · refine .inl (fun j hj => ?_)
        by_cases e : j = m
        · rw [e]; exact q
        · exact h j (by omega)
      · exact .inr ⟨m, Nat.lt_succ_self _, h, by omega⟩
    · exact .inr ⟨k, by omega, h2, h3⟩
theorem owner_spec (P : List Int) (x : Int) (h0 : 0 < P.length) : (ownerN P x = 0 ∧ ∀ j, j < P.length → P.getD j 0 < x) ∨ ∃ k : Nat, k < P.length ∧ ownerN P x = k ∧ (∀ j, j < k → P.getD j 0 < x) ∧ x ≤ P.getD k 0 := by
  rcases first_ge P x P.length with h | ⟨k, h1, h2, h3⟩
  · exact .inl ⟨owner_miss P x h0 h, h⟩
  · exact .inr ⟨k, h1, owner_hit P x k h1 h2 h3, h2, h3⟩
theorem owner_at {P : List Int} (hp : P.Pairwise (· < ·)) {i : Nat} (hi : i < P.length) : ownerN P (P.getD i 0) = i :=
  owner_hit P _ i hi (fun j hj => rising_getD hp j i hj hi) (Int.le_refl _)
theorem owner_next {P : List Int} (hp : P.Pairwise (· < ·)) (hu : ∀ k : Nat, Plc (P.getD k 0)) {i : Nat} (hi : i < P.length) : ownerN P ((P.getD i 0 + 1) % 18446744073709551616) = ((i + 1) % P.length : Nat) := by
  have hui := hu i
  unfold Plc at hui
  by_cases q : i + 1 < P.length
  · have hr := rising_getD hp i (i + 1) (by omega) q
    have hu1 := hu (i + 1)
    unfold Plc at hu1
    rw [Nat.mod_eq_of_lt q, Int.emod_eq_of_lt (by omega) (by omega)]
    refine owner_hit P _ (i + 1) q (fun j hj => ?_) (by omega)
    by_cases e : j = i
    · rw [e]; omega
    · have := rising_getD hp j i (by omega) hi; omega
  · have e : i + 1 = P.length := by omega
    rw [e, Nat.mod_self]
    by_cases w : P.getD i 0 = 18446744073709551615
    · rw [w]
      have h0 := hu 0
      unfold Plc at h0
      exact owner_hit P _ 0 (by omega) (fun j hj => absurd hj (Nat.not_lt_zero _)) (by simpa using h0.1)
    · rw [Int.emod_eq_of_lt (by omega) (by omega)]
      refine owner_miss P _ (by omega) (fun j hj => ?_)
      by_cases e : j = i
      · rw [e]; omega
      · have := rising_getD hp j i (by omega) hi; omega
theorem owner_iff {P : List Int} (hp : P.Pairwise (· < ·)) (hu : ∀ k : Nat, Plc (P.getD k 0)) (h2 : 2 ≤ P.length) {i : Nat} (hi : i < P.length) {x : Int} (hx : Plc x) :
    ownerN P x = i ↔ (x - P.getD ((i + P.length - 1) % P.length) 0 - 1) % 18446744073709551616 < (P.getD i 0 - P.getD ((i + P.length - 1) % P.length) 0) % 18446744073709551616 := by
  have hui := hu i
  have huq := hu ((i + P.length - 1) % P.length)
  unfold Plc at hui huq hx
  have hsp := owner_spec P x (by omega)
  by_cases q : i = 0
  · subst q
    have e : (0 + P.length - 1) % P.length = P.length - 1 := by rw [Nat.zero_add]; exact Nat.mod_eq_of_lt (by omega)
    rw [e] at huq ⊢
    have hr := rising_getD hp 0 (P.length - 1) (by omega) (by omega)
    rcases hsp with ⟨h1, h3⟩ | ⟨k, h1, h3, h4, h5⟩
    · have := h3 (P.length - 1) (by omega)
      rw [h1]
      constructor
      · intro _; omega
      · intro _; rfl
    · rw [h3]
      have hl : P.getD k 0 ≤ P.getD (P.length - 1) 0 := by
        by_cases e : k = P.length - 1
        · rw [e]; exact Int.le_refl _
        · exact Int.le_of_lt (rising_getD hp k (P.length - 1) (by omega) (by omega))
      by_cases k0 : k = 0
      · subst k0
        constructor
        · intro _; omega
        · intro _; rfl
      · have := h4 0 (by omega)
        constructor
        · intro h; omega
        · intro h; omega
  · have e : (i + P.length - 1) % P.length = i - 1 := by
      have : i + P.length - 1 = (i - 1) + P.length := by omega
      rw [this, Nat.add_mod_right]; exact Nat.mod_eq_of_lt (by omega)
    rw [e] at huq ⊢
    have hr := rising_getD hp (i - 1) i (by omega) hi
    rcases hsp with ⟨h1, h3⟩ | ⟨k, h1, h3, h4, h5⟩
    · have := h3 i hi
      rw [h1]
      constructor
      · intro h; omega
      · intro h; omega
    · rw [h3]
      constructor
      · intro h
        have : k = i := by omega
        subst this
        have := h4 (k - 1) (by omega)
        omega
      · intro h
        by_cases c1 : k < i
        · have hk : P.getD k 0 ≤ P.getD (i - 1) 0 := by
            by_cases e : k = i - 1
            · rw [e]; exact Int.le_refl _
            · exact Int.le_of_lt (rising_getD hp k (i - 1) (by omega) (by omega))
          omega
        · by_cases c2 : i < k
          · have := h4 i c2
            omega
          · have : k = i := by omega
            rw [this]
end Go.Proofs.YtmajlldfiiokoaaGreatDoor

/- Ways: whom one asks next, and how near one comes. No program in sight. -/
namespace Go.Proofs.YtmajlldfiiokoaaGreatDoor
set_option linter.unusedVariables false

/-- Does a member think that a place is its own? -/
def Rg.owns (R : Rg) (n x : Int) : Bool := (R.know n).pred != -1 && (R.lives (R.know n).pred && inB x (R.idOf (R.know n).pred) (R.know n).id)
def Rg.closer (R : Rg) (frm x best q : Int) : Bool := R.lives q && (withinB (R.idOf q) (R.idOf best) frm && withinB (R.idOf q) (R.idOf best) x)
def Rg.nearst (R : Rg) (frm x : Int) : Int → List Int → Int
  | best, [] => best
  | best, q :: l => R.nearst frm x (if R.closer frm x best q then q else best) l
/-- Who is asked next. -/
def Rg.nextTo (R : Rg) (G : Int → List Int) (x n : Int) : Int :=
  if x == (R.know n).id || R.owns n x then n
  else if inB x (R.know n).id (R.idOf (R.head n)) then R.head n
  else R.nearst (R.know n).id x (R.nearst (R.know n).id x (R.head n) (R.know n).succ) (G n)
def Rg.hopTo (R : Rg) (G : Int → List Int) (x n : Int) : Nat → Int
  | 0 => n
  | k + 1 => R.nextTo G x (R.hopTo G x n k)
/-- The way ends behind k steps. -/
def Rg.stops (R : Rg) (G : Int → List Int) (x n : Int) (k : Nat) : Prop := (∀ j, j < k → R.hopTo G x n (j + 1) ≠ R.hopTo G x n j) ∧ R.hopTo G x n (k + 1) = R.hopTo G x n k
def Rg.way (R : Rg) (G : Int → List Int) (x n : Int) (k : Nat) : List Int := (List.range k).map (R.hopTo G x n)
theorem way_succ (R : Rg) (G : Int → List Int) (x n : Int) (k : Nat) : R.way G x n (k + 1) = R.way G x n k ++ [R.hopTo G x n k] := by simp [Rg.way, List.range_succ]
theorem way_getD (R : Rg) (G : Int → List Int) (x n : Int) {k i : Nat} (hi : i < k) : (R.way G x n k).getD i 0 = R.hopTo G x n i := by simp [Rg.way, List.getD, hi]
theorem way_len (R : Rg) (G : Int → List Int) (x n : Int) (k : Nat) : (R.way G x n k).length = k := by simp [Rg.way]
theorem near_drop (R : Rg) (frm x b : Int) (l : List Int) (k : Nat) (hk : k < l.length) : R.nearst frm x b (l.drop k) = R.nearst frm x (if R.closer frm x b (l.getD k 0) then l.getD k 0 else b) (l.drop (k + 1)) := by
  rw [List.drop_eq_getElem_cons hk]
  have e : l.getD k 0 = l[k] := by simp [List.getD, hk]
  rw [e]; rfl
theorem hop_add (R : Rg) (G : Int → List Int) (x n : Int) (i k : Nat) : R.hopTo G x (R.hopTo G x n i) k = R.hopTo G x n (i + k) := by
  induction k with
  | zero => rfl
  | succ k ih => show R.nextTo G x _ = R.nextTo G x _; rw [ih]; rfl
theorem stops_uniq {R : Rg} {G : Int → List Int} {x n : Int} {k j : Nat} (h : R.stops G x n k) (h' : R.stops G x n j) : k = j := by
  rcases Nat.lt_trichotomy k j with q | q | q
  · exact absurd h.2 (h'.1 k q)
  · exact q
  · exact absurd h'.2 (h.1 j q)
theorem stops_rest {R : Rg} {G : Int → List Int} {x n : Int} {k i : Nat} (h : R.stops G x n k) (hi : i ≤ k) : R.stops G x (R.hopTo G x n i) (k - i) := by
  refine ⟨fun j hj => ?_, ?_⟩
  · rw [hop_add, hop_add]; exact h.1 (i + j) (by omega)
  · rw [hop_add, hop_add, show i + (k - i) = k by omega, show i + (k - i + 1) = k + 1 by omega]; exact h.2
section
variable {R : Rg} (h : Inv R) {G : Int → List Int} {x : Int} (hx : Plc x)
include h hx
theorem near_inv {frm : Int} (hf : Plc frm) : ∀ (l : List Int) (b : Int), R.lives b = true → dist (R.idOf b) x ≠ 0 → dist (R.idOf b) frm ≠ 0 →
    R.lives (R.nearst frm x b l) = true ∧ dist (R.idOf (R.nearst frm x b l)) x ≤ dist (R.idOf b) x ∧ dist (R.idOf (R.nearst frm x b l)) x ≠ 0 ∧ dist (R.idOf (R.nearst frm x b l)) frm ≠ 0 := by
  intro l
  induction l with
  | nil => intro b h1 h2 h3; exact ⟨h1, Int.le_refl _, h2, h3⟩
  | cons q l ih =>
    intro b h1 h2 h3
    unfold Rg.nearst
    cases hc : R.closer frm x b q
    · exact ih b h1 h2 h3
    · unfold Rg.closer at hc
      simp only [Bool.and_eq_true] at hc
      obtain ⟨c1, c2, c3⟩ := hc
      have hb := h.u b
      have hq := h.u q
      have w2 := (within_iff hq hb hf).1 c2
      have w3 := (within_iff hq hb hx).1 c3
      have d3 : dist (R.idOf b) (R.idOf q) < dist (R.idOf b) x := w3.2.resolve_left h2
      have d2 : dist (R.idOf b) (R.idOf q) < dist (R.idOf b) frm := w2.2.resolve_left h3
      have t1 : dist (R.idOf q) x < dist (R.idOf b) x := by unfold Plc at *; unfold dist at *; omega
      have t2 : dist (R.idOf q) x ≠ 0 := by unfold Plc at *; unfold dist at *; omega
      have t3 : dist (R.idOf q) frm ≠ 0 := by unfold Plc at *; unfold dist at *; omega
      have := ih q c1 t2 t3
      exact ⟨this.1, by have := this.2.1; simp only [if_true]; omega, this.2.2⟩
/-- Who is asked next lives; it is oneself just where the place is one's own; else it lies nearer, but it be the head. -/
theorem next_spec {n : Int} (hn : R.lives n = true) : R.lives (R.nextTo G x n) = true ∧ (R.nextTo G x n = n ↔ (x = R.idOf n ∨ R.owns n x = true)) ∧
    (R.nextTo G x n ≠ n → (R.nextTo G x n = R.head n ∧ inB x (R.idOf n) (R.idOf (R.head n)) = true) ∨ dist (R.idOf (R.nextTo G x n)) x < dist (R.idOf n) x) := by
  have hid := h.id n hn
  have hh := h.head hn
  have hne : R.head n ≠ n := h.apart hh.2
  have un := h.u n
  have uh := h.u (R.head n)
  have hnh : R.idOf n ≠ R.idOf (R.head n) := fun e => hne (h.inj _ _ hh.1 hn e.symm)
  unfold Rg.nextTo
  rw [hid]
  by_cases c1 : x = R.idOf n ∨ R.owns n x = true
  · have e : (x == R.idOf n || R.owns n x) = true := by
      rcases c1 with q | q
      · simp [q]
      · simp [q]
    rw [e]
    simp only [if_true]
    exact ⟨hn, ⟨fun _ => c1, fun _ => trivial⟩, fun q => absurd rfl q⟩
  · have e : (x == R.idOf n || R.owns n x) = false := by
      have q1 : ¬ x = R.idOf n := fun q => c1 (.inl q)
      have q2 : ¬ R.owns n x = true := fun q => c1 (.inr q)
      simp [q1, q2]
    have q1 : x ≠ R.idOf n := fun q => c1 (.inl q)
    rw [e]
    simp only [Bool.false_eq_true, if_false]
    cases c2 : inB x (R.idOf n) (R.idOf (R.head n))
    · simp only [Bool.false_eq_true, if_false]
      rw [in_of x _ _ q1 hnh] at c2
      have d : dist (R.idOf n) (R.idOf (R.head n)) < dist (R.idOf n) x := by simpa using c2
      have d1 : dist (R.idOf (R.head n)) x < dist (R.idOf n) x := by unfold Plc at *; unfold dist at *; omega
      have d2 : dist (R.idOf (R.head n)) x ≠ 0 := by unfold Plc at *; unfold dist at *; omega
      have d3 : dist (R.idOf (R.head n)) (R.idOf n) ≠ 0 := by unfold Plc at *; unfold dist at *; omega
      have s1 := near_inv h hx un (R.know n).succ (R.head n) hh.1 d2 d3
      have s2 := near_inv h hx un (G n) _ s1.1 s1.2.2.1 s1.2.2.2
      generalize R.nearst (R.idOf n) x (R.nearst (R.idOf n) x (R.head n) (R.know n).succ) (G n) = m at *
      have hm : m ≠ n := fun q => s2.2.2.2 (by rw [q]; exact dist_self _)
      exact ⟨s2.1, ⟨fun q => absurd q hm, fun q => absurd q c1⟩, fun _ => .inr (by have := s1.2.1; have := s2.2.1; omega)⟩
    · simp only [if_true]
      exact ⟨hh.1, ⟨fun q => absurd q hne, fun q => absurd q c1⟩, fun _ => .inl ⟨trivial, trivial⟩⟩
theorem hop_lives {n : Int} (hn : R.lives n = true) (k : Nat) : R.lives (R.hopTo G x n k) = true := by
  induction k with
  | zero => exact hn
  | succ k ih => exact (next_spec h hx ih).1
section
variable (hd : Hds R)
include hd
/-- Where heads and Preds are right each step but the last comes nearer. -/
theorem step_near {n : Int} (hn : R.lives n = true) (h1 : R.nextTo G x n ≠ n) (h2 : R.nextTo G x (R.nextTo G x n) ≠ R.nextTo G x n) : dist (R.idOf (R.nextTo G x n)) x < dist (R.idOf n) x := by
  have s := next_spec (G := G) h hx hn
  rcases s.2.2 h1 with ⟨e, hi⟩ | q
  · obtain ⟨t, ha⟩ := h.adj_exists hn
    obtain ⟨g1, g2⟩ := hd n t ha
    have hlt : R.lives (R.head n) = true := by rw [g1]; exact ha.2.1
    exfalso
    apply h2
    rw [e]
    refine ((next_spec h hx hlt).2.1).2 (.inr ?_)
    unfold Rg.owns
    rw [g1, g2, h.id t ha.2.1]
    have := h.rng n hn
    have e1 : (n != -1) = true := by simp; omega
    rw [g1] at hi
    rw [e1, hn, hi]; rfl
  · exact q
theorem hop_near {n : Int} (hn : R.lives n = true) {k : Nat} (hk : ∀ j, j < k → R.hopTo G x n (j + 1) ≠ R.hopTo G x n j) {i : Nat} (hi : i + 1 < k) : dist (R.idOf (R.hopTo G x n (i + 1))) x < dist (R.idOf (R.hopTo G x n i)) x :=
  step_near h hx hd (hop_lives h hx hn i) (hk i (by omega)) (hk (i + 1) hi)
theorem hop_dec {n : Int} (hn : R.lives n = true) {k : Nat} (hk : ∀ j, j < k → R.hopTo G x n (j + 1) ≠ R.hopTo G x n j) (i : Nat) : ∀ d, i + d + 1 < k → dist (R.idOf (R.hopTo G x n (i + d + 1))) x < dist (R.idOf (R.hopTo G x n i)) x := by
  intro d
  induction d with
  | zero => intro hq; exact hop_near h hx hd hn hk hq
  | succ d ih =>
    intro hq
    have a1 := ih (by omega)
    have a2 := hop_near h hx hd hn hk (i := i + d + 1) (by omega)
    rw [show i + (d + 1) + 1 = i + d + 1 + 1 by omega]
    omega
theorem hop_ne {n : Int} (hn : R.lives n = true) {k : Nat} (hk : ∀ j, j < k → R.hopTo G x n (j + 1) ≠ R.hopTo G x n j) {i j : Nat} (hij : i < j) (hj : j ≤ k) : R.hopTo G x n i ≠ R.hopTo G x n j := fun e => by
  by_cases q : j < k
  · have := hop_dec h hx hd hn hk i (j - i - 1) (by omega)
    rw [show i + (j - i - 1) + 1 = j by omega, e] at this
    omega
  · obtain rfl : j = k := by omega
    have h1 : R.nextTo G x (R.hopTo G x n j) ≠ R.hopTo G x n j := by rw [← e]; exact hk i hij
    have hk' : ∀ m, m < j + 1 → R.hopTo G x n (m + 1) ≠ R.hopTo G x n m := fun m hm => by
      by_cases qm : m < j
      · exact hk m qm
      · obtain rfl : m = j := by omega
        exact h1
    have := hop_dec h hx hd hn hk' i (j - i - 1) (by omega)
    rw [show i + (j - i - 1) + 1 = j by omega, e] at this
    omega
theorem way_nodup {n : Int} (hn : R.lives n = true) {k : Nat} (hk : ∀ j, j < k → R.hopTo G x n (j + 1) ≠ R.hopTo G x n j) : (R.way G x n (k + 1)).Nodup := by
  refine List.pairwise_iff_getElem.2 (fun i j hi hj hij => ?_)
  have hj' : j ≤ k := by simp [Rg.way] at hj; omega
  simp only [Rg.way, List.getElem_map, List.getElem_range]
  exact hop_ne h hx hd hn hk hij hj'
theorem way_few {n : Int} (hn : R.lives n = true) {k : Nat} (hk : ∀ j, j < k → R.hopTo G x n (j + 1) ≠ R.hopTo G x n j) : k + 1 ≤ R.live.length := by
  have := nodup_sub (R.way G x n (k + 1)) R.live (way_nodup h hx hd hn hk) (fun y hy => by
    obtain ⟨j, _, rfl⟩ := List.mem_map.1 hy
    exact h.in_live (hop_lives h hx hn j))
  rwa [way_len] at this
/-- Each way ends. -/
theorem way_ends {n : Int} (hn : R.lives n = true) : ∃ k, k < R.live.length ∧ R.stops G x n k := by
  apply Classical.byContradiction
  intro hno
  have all : ∀ k, k ≤ R.live.length → ∀ j, j < k → R.hopTo G x n (j + 1) ≠ R.hopTo G x n j := by
    intro k
    induction k with
    | zero => intro _ j hj; exact absurd hj (Nat.not_lt_zero _)
    | succ k ih =>
      intro hk j hj e
      by_cases q : j < k
      · exact ih (by omega) j q e
      · obtain rfl : j = k := by omega
        exact hno ⟨j, by omega, ih (by omega), e⟩
  have := way_few h hx hd hn (all _ (Nat.le_refl _))
  omega
end
end
/-- Where all is as it should be a way ends at the owner. -/
theorem stop_owner {R : Rg} {C : List Int} (h : Rgt 3 R) (c : Cir R C) {G : Int → List Int} {x n : Int} (hx : Plc x) (hn : R.lives n = true) (hs : R.nextTo G x n = n) : ∃ k : Nat, k < C.length ∧ ownerN (C.map R.idOf) x = k ∧ C.getD k 0 = n := by
  have hi := h.1
  obtain ⟨k, hk, e⟩ := c.at_ hn
  have hg : ∀ j, j < C.length → (C.map R.idOf).getD j 0 = R.idOf (C.getD j 0) := fun j hj => by simp [List.getD, hj]
  have hr : (C.map R.idOf).Pairwise (· < ·) := List.pairwise_map.2 c.rise
  have hu : ∀ j : Nat, Plc ((C.map R.idOf).getD j 0) := fun j => by
    by_cases q : j < C.length
    · rw [hg j q]; exact hi.u _
    · have e : (C.map R.idOf).getD j 0 = 0 := by simp [List.getD, List.getElem?_eq_none (by simp; omega : (C.map R.idOf).length ≤ j)]
      rw [e]; unfold Plc; omega
  have h4 := c.four hi
  have hkm : k < (C.map R.idOf).length := by simpa using hk
  refine ⟨k, hk, ?_, e⟩
  rcases ((next_spec hi hx hn).2.1).1 hs with q | q
  · have := owner_at hr hkm
    rw [hg k hk, e] at this
    rw [q]; exact this
  · have hm : (k + C.length - 1) % C.length < C.length := Nat.mod_lt _ (by omega)
    have hkn := h.know_eq c hk
    rw [e] at hkn
    unfold Rg.owns at q
    simp only [Bool.and_eq_true] at q
    obtain ⟨_, _, q3⟩ := q
    rw [hkn] at q3
    simp only [idPe] at q3
    rw [e] at q3
    refine (owner_iff hr hu (by simpa using (by omega : 2 ≤ C.length)) hkm hx).2 ?_
    simp only [List.length_map]
    rw [hg _ hm, hg k hk, e]
    have hne : R.idOf (C.getD ((k + C.length - 1) % C.length) 0) ≠ R.idOf n := fun e2 => by
      have := hi.inj _ _ (c.lv hm) hn e2
      rw [← e] at this
      have := c.inj hm hk this
      by_cases z : k = 0
      · subst z
        rw [Nat.zero_add, Nat.mod_eq_of_lt (by omega)] at this; omega
      · have e3 : k + C.length - 1 = (k - 1) + C.length := by omega
        rw [e3, Nat.add_mod_right, Nat.mod_eq_of_lt (by omega)] at this; omega
    have u1 := hi.u (C.getD ((k + C.length - 1) % C.length) 0)
    have u2 := hi.u n
    generalize R.idOf (C.getD ((k + C.length - 1) % C.length) 0) = y at *
    generalize R.idOf n = z at *
    unfold inB at q3
    have hyz : (y == z) = false := by simpa using hne
    rw [hyz] at q3
    simp only [Bool.false_or, Bool.and_eq_true, decide_eq_true_eq, bne_iff_ne] at q3
    unfold dist at q3
    unfold Plc at *
    omega
end Go.Proofs.YtmajlldfiiokoaaGreatDoor

/- Fingers in memory: the ring's pointer and a map of lists, behind a pointer. -/
namespace Go.Proofs.YtmajlldfiiokoaaGreatDoor
open Go.ChangeShapes Go.WideShapes Go.ChangeAt Go.RowKit Go.Deep
set_option linter.unusedVariables false

/-- The list that a key has; none: an empty one. -/
def LsOk (w : World) (l : List Int) : Option Value → Prop
  | none => l = []
  | some v => ∃ a len cap, v = .slice a len cap ∧ InIn w a len l ∧ (a = none → len = 0) ∧ len ≤ cap ∧ cap ≤ 9223372036854775807
structure FgAt (w : World) (f r gm : Nat) (G : Int → List Int) : Prop where
  box : w.heap[f]? = some (.cells #[.pointer (some ⟨r, 0, none⟩), .map (some gm)] 107 (0, 0))
  map : ∃ m, MpAt w gm m ∧ ∀ k, LsOk w (G k) (look m k)
theorem LsOk.below {w w' : World} {l : List Int} {v : Option Value} (h : LsOk w l v) (hb : Below w.heap.size w w') : LsOk w' l v := by
  cases v with
  | none => exact h
  | some v => obtain ⟨a, len, cap, e, h1, h2⟩ := h; exact ⟨a, len, cap, e, h1.below (Nat.le_refl _) hb, h2⟩
theorem LsOk.kp {w w' : World} {l : List Int} {v : Option Value} {gp gk : Nat} (h : LsOk w l v) (hk : Kp w w' gp gk) {mp mk : List (Int × Value)} (h1 : MpAt w gp mp) (h2 : MpAt w gk mk) : LsOk w' l v := by
  cases v with
  | none => exact h
  | some v => obtain ⟨a, len, cap, e, q1, q2⟩ := h; exact ⟨a, len, cap, e, InRow.kp q1 hk h1 h2, q2⟩
theorem FgAt.lt {w : World} {f r gm : Nat} {G : Int → List Int} (h : FgAt w f r gm G) : f < w.heap.size ∧ gm < w.heap.size := by
  obtain ⟨m, hm, _⟩ := h.map
  refine ⟨?_, hm.lt⟩
  rcases Nat.lt_or_ge f w.heap.size with q | q
  · exact q
  · have := h.box; rw [Array.getElem?_eq_none q] at this; cases this
theorem FgAt.ne {w : World} {f r gm : Nat} {G : Int → List Int} (h : FgAt w f r gm G) : f ≠ gm := fun e => by
  obtain ⟨m, ⟨_, es, c, hp, _⟩, _⟩ := h.map
  have := h.box; rw [e, hp] at this; cases this
theorem FgAt.below {w w' : World} {f r gm : Nat} {G : Int → List Int} (h : FgAt w f r gm G) (hb : Below w.heap.size w w') : FgAt w' f r gm G := by
  have hl := h.lt
  obtain ⟨m, hm, hg⟩ := h.map
  exact ⟨(hb.block f hl.1).trans h.box, m, hm.of_block (hb.block gm hl.2), fun k => (hg k).below hb⟩
theorem FgAt.c0 {w : World} {f r gm : Nat} {G : Int → List Int} (h : FgAt w f r gm G) : w.cell? ⟨f, 0, none⟩ = some (.pointer (some ⟨r, 0, none⟩)) := by simp [World.cell?, h.box]
theorem FgAt.c1 {w : World} {f r gm : Nat} {G : Int → List Int} (h : FgAt w f r gm G) : w.cell? ⟨f, 1, none⟩ = some (.map (some gm)) := by simp [World.cell?, h.box]
theorem zero_ints (w : World) : (zeroValue 24).run Tryz.prog w = .ok (.slice none 0 0) w := by kernel_rfl
/-- A look-up, in whatever grew out of it. -/
theorem FgAt.ask {w : World} {f r gm : Nat} {G : Int → List Int} (h : FgAt w f r gm G) (n : Int) :
    ∃ a len cap, InIn w a len (G n) ∧ (a = none → len = 0) ∧ len ≤ cap ∧ cap ≤ 9223372036854775807 ∧ ∀ w', Below w.heap.size w w' → (Instr.lookup 105 (.map (some gm)) (.int .i64 n) false).run Tryz.prog w' = .ok (.slice a len cap) w' := by
  have hlt := h.lt
  obtain ⟨m, hm, hg⟩ := h.map
  have q := hg n
  cases hl : look m n with
  | none =>
    rw [hl] at q
    refine ⟨none, 0, 0, by rw [show G n = [] from q]; exact ⟨rfl, by omega, .inl rfl⟩, fun _ => rfl, by omega, by omega, fun w' hb => (run_look_none (hm.of_block (hb.block gm hlt.2)) Tryz.underlying105 Tryz.underlying3 (zero_ints w') hl).2⟩
  | some v =>
    rw [hl] at q
    obtain ⟨a, len, cap, rfl, h1, h2, h3, h4⟩ := q
    exact ⟨a, len, cap, h1, h2, h3, h4, fun w' hb => (run_look_some (hm.of_block (hb.block gm hlt.2)) Tryz.underlying105 Tryz.underlying3 hl).2⟩
/-- A store. -/
theorem FgAt.put {w : World} {f r gm : Nat} {G : Int → List Int} (h : FgAt w f r gm G) (n : Int) {a : Option Addr} {len cap : Nat} {l : List Int} (hl : InIn w a len l) (hn : a = none → len = 0) (hc : len ≤ cap) (hm : cap ≤ 9223372036854775807) :
    ∃ w', (Instr.mapUpdate 105 (.map (some gm)) (.int .i64 n) (.slice a len cap)).run Tryz.prog w = .ok () w' ∧ FgAt w' f r gm (upd G n l) ∧ Kp w w' gm gm := by
  have hne := h.ne
  have hlt := h.lt
  obtain ⟨m, hmm, hg⟩ := h.map
  obtain ⟨o, h1, h2⟩ := run_put (P := Tryz.prog) hmm Tryz.underlying105 Tryz.underlying3 n (.slice a len cap)
  have kp := Kp.setP w gm gm o
  refine ⟨_, h1, ⟨(kp.block f hlt.1 hne hne).trans h.box, _, h2, fun k => ?_⟩, kp⟩
  rw [look_put]
  simp only [upd]
  split
  · exact ⟨a, len, cap, rfl, InRow.kp hl kp hmm hmm, hn, hc, hm⟩
  · exact (hg k).kp kp hmm hmm
/-- The ring's maps are written beside it. -/
theorem FgAt.kp {w w' : World} {f r gm gp gk : Nat} {G : Int → List Int} {R : Rg} (h : FgAt w f r gm G) (hr : RingAt w r gp gk R) (k : Kp w w' gp gk) (n1 : gp ≠ gm) (n2 : gk ≠ gm) : FgAt w' f r gm G := by
  have hlt := h.lt
  obtain ⟨m, hm, hg⟩ := h.map
  obtain ⟨mp, hp, _⟩ := hr.places
  obtain ⟨mk, hk, _⟩ := hr.known
  have nf : f ≠ gp ∧ f ≠ gk := by
    obtain ⟨_, es, c, hp, _⟩ := hp
    obtain ⟨_, es', c', hk, _⟩ := hk
    refine ⟨fun e => ?_, fun e => ?_⟩
    · have := h.box; rw [e, hp] at this; cases this
    · have := h.box; rw [e, hk] at this; cases this
  exact ⟨(k.block f hlt.1 nf.1 nf.2).trans h.box, m, hm.of_block (k.block gm hlt.2 (Ne.symm n1) (Ne.symm n2)), fun x => (hg x).kp k hp hk⟩
/-- Its map is written beside the ring. -/
theorem RingAt.kg {w w' : World} {f r gm gp gk : Nat} {G : Int → List Int} {R : Rg} (h : RingAt w r gp gk R) (hf : FgAt w f r gm G) (k : Kp w w' gm gm) (n1 : gp ≠ gm) (n2 : gk ≠ gm) : RingAt w' r gp gk R := by
  obtain ⟨mp, hp, hp'⟩ := h.places
  obtain ⟨mk, hk, hk'⟩ := h.known
  obtain ⟨m, hm, _⟩ := hf.map
  have hl := h.lt
  have nr : r ≠ gm := fun e => by
    obtain ⟨_, es, c, hp, _⟩ := hm
    have := h.box; rw [e, hp] at this; cases this
  exact ⟨(k.block r hl.1 nr nr).trans h.box, h.ne, ⟨mp, hp.of_block (k.block gp hl.2.1 n1 n1), hp'⟩, ⟨mk, hk.of_block (k.block gk hl.2.2 n2 n2), fun x => (hk' x).kp k hm hm⟩, h.ids, fun b hb => Nat.lt_of_lt_of_le (h.old b hb) k.size⟩
/-- A ring and fingers, both ours. -/
structure Rt (w wr : World) (r gp gk f gm : Nat) (R : Rg) (G : Int → List Int) : Prop where
  rn : Rn w wr r gp gk R
  fg : FgAt wr f r gm G
  n1 : gp ≠ gm
  n2 : gk ≠ gm
  gm : w.heap.size ≤ gm
theorem Rt.below {w wr w' : World} {r gp gk f gm : Nat} {R : Rg} {G : Int → List Int} (h : Rt w wr r gp gk f gm R G) (hb : Below wr.heap.size wr w') : Rt w w' r gp gk f gm R G := ⟨h.rn.below hb, h.fg.below hb, h.n1, h.n2, h.gm⟩
theorem Rt.kg {w wr w' : World} {r gp gk f gm : Nat} {R : Rg} {G G' : Int → List Int} (h : Rt w wr r gp gk f gm R G) (hf : FgAt w' f r gm G') (k : Kp wr w' gm gm) : Rt w w' r gp gk f gm R G' :=
  ⟨⟨h.rn.ring.kg h.fg k h.n1 h.n2, h.rn.inv, h.rn.bel.trans (k.below h.gm h.gm h.rn.bel.size), h.rn.gp, h.rn.gk⟩, hf, h.n1, h.n2, h.gm⟩
theorem Rt.step {w wr w' : World} {r gp gk f gm : Nat} {R R' : Rg} {G : Int → List Int} (h : Rt w wr r gp gk f gm R G) (hr : RingAt w' r gp gk R') (hi : Inv R') (k : Kp wr w' gp gk) : Rt w w' r gp gk f gm R' G :=
  ⟨h.rn.step hr hi k, h.fg.kp h.rn.ring k h.n1 h.n2, h.n1, h.n2, h.gm⟩
end Go.Proofs.YtmajlldfiiokoaaGreatDoor

/- route.Owns, nearest, Next. -/
namespace Go.Proofs.YtmajlldfiiokoaaGreatDoor
open Go.ChangeShapes Go.WideShapes Go.ChangeAt Go.RowKit Go.Deep
set_option linter.unusedVariables false

theorem fnew_r (w wr : World) (r gp gk : Nat) (R : Rg) (h : Rn w wr r gp gk R) :
    Calls Tryz.prog 13 #[.pointer (some ⟨r, 0, none⟩)] wr fun e w' => ∃ f gm, e = .returned (.pointer (some ⟨f, 0, none⟩)) ∧ Rt w w' r gp gk f gm R (fun _ => []) := by
  have hz : ∀ k, LsOk ((wr.alloc (.map #[] 0)).alloc (.cells #[.pointer (some ⟨r, 0, none⟩), .map (some wr.heap.size)] 107)) [] (look [] k) := fun k => rfl
  have hb : Below wr.heap.size wr ((wr.alloc (.map #[] 0)).alloc (.cells #[.pointer (some ⟨r, 0, none⟩), .map (some wr.heap.size)] 107)) := (below_one _ _).trans ((below_one _ _).mono (by simp))
  have hl := h.ring.lt
  have HR : Hid (Rt w ((wr.alloc (.map #[] 0)).alloc (.cells #[.pointer (some ⟨r, 0, none⟩), .map (some wr.heap.size)] 107)) r gp gk (wr.heap.size + 1) wr.heap.size R (fun _ => [])) := by
    refine ⟨h.below hb, ⟨?_, [], ?_, hz⟩, by omega, by omega, h.bel.size⟩
    · simpa using heap_alloc_new (wr.alloc (.map #[] 0)) (.cells #[.pointer (some ⟨r, 0, none⟩), .map (some wr.heap.size)] 107)
    · exact (MpAt.made wr).of_block (Below.heap_alloc _ _ _ (by simp))
  clear hz hb hl h
  have hmm := @run_makeMap Tryz.prog
  go_enter Tryz.func13, Tryz.ntmps13
  go_wp2
  go_ret
  exact ⟨wr.heap.size + 1, wr.heap.size, by simp, HR.out⟩

set_option maxRecDepth 100000 in
set_option maxHeartbeats 2000000 in
theorem owns_r (r gp gk : Nat) (R : Rg) (id pred x : Int) (a : Option Addr) (len cap : Nat) (w : World) (h : RingAt w r gp gk R) :
    Calls Tryz.prog 172 #[.agg #[.int .u64 id, .int .i64 pred, .slice a len cap], .int .u64 x, .iface 25 (.pointer (some ⟨r, 0, none⟩))] w fun e w' => e = .returned (.bool (pred != -1 && (R.lives pred && inB x (R.idOf pred) id))) ∧ Below w.heap.size w w' := by
  have m1 := fun a w => mr_lives a w
  have m2 := fun a w => mr_id a w
  obtain ⟨W1, hW1⟩ : ∃ W1, W1 = w.alloc (.cells #[.int .u64 id, .int .i64 pred, .slice a len cap] 80) := ⟨_, rfl⟩
  have b1 : Below w.heap.size w W1 := by rw [hW1]; exact below_one _ _
  have e0 : W1.heap[w.heap.size]? = some (.cells #[.int .u64 id, .int .i64 pred, .slice a len cap] 80 (0, 0)) := by rw [hW1]; exact heap_alloc_new w _
  have x0 : W1.cell? ⟨w.heap.size, 0, none⟩ = some (.int .u64 id) := by simp [World.cell?, e0]
  have x1 : W1.cell? ⟨w.heap.size, 1, none⟩ = some (.int .i64 pred) := by simp [World.cell?, e0]
  have xl := cell_block x0
  have HB : Hid (Below w.heap.size w W1) := b1
  obtain ⟨ι, F, _, hF0, hFb, hFc⟩ := grown_fam W1
  have f0 : ∀ i, (F i).cell? ⟨w.heap.size, 0, none⟩ = _ := fun i => cell_grown x0 (hFb i)
  have f1 : ∀ i, (F i).cell? ⟨w.heap.size, 1, none⟩ = _ := fun i => cell_grown x1 (hFb i)
  have HF : Hid ((∃ i, { W1 with drawn := W1.drawn + 1 } = F i) ∧ (∀ i, Below W1.heap.size W1 (F i)) ∧ (∀ i W, Below W1.heap.size (F i) W → ∃ j, W = F j)) := ⟨hF0, hFb, hFc⟩
  have HR : Hid (∀ i, RingAt (F i) r gp gk R) := fun i => (h.below b1).below (hFb i)
  clear b1 e0 x0 x1 hF0 hFb hFc h
  by_cases q : pred = -1
  · subst q
    go_enter Tryz.func172, Tryz.ntmps172
    go_upto_region 1 with fail
    rw [← hW1]
    clear hW1
    refine wp_region_fam F HF.out.1 (by kernel_rfl) (by kernel_rfl) ?_
    repeat (go_big_quiet_step (fail))
    refine wpQuiet_nil ?_
    rintro _ ⟨i, rfl⟩
    have HB4 := HF.out.2.1 i
    go_wp2
    go_ret
    exact ⟨rfl, HB.out.trans (HB4.mono HB.out.size)⟩
  · have q' : (pred != -1) = true := by simpa using q
    rw [q']
    cases hlv : R.lives pred
    all_goals
      have HLV : Hid _ := hlv
      clear hlv
      obtain ⟨yi, hyi⟩ : ∃ y, y = R.idOf pred := ⟨_, rfl⟩
      have HYI : Hid (R.idOf pred = yi) := hyi.symm
      rw [← hyi]
      clear hyi
      go_enter Tryz.func172, Tryz.ntmps172
      go_upto_region 1 with fail
      rw [← hW1]
      clear hW1
      refine wp_region_fam F HF.out.1 (by kernel_rfl) (by kernel_rfl) ?_
      repeat (go_big_quiet_step (first
        | (go_at_call 15; refine (lives_r r gp gk R pred _ (HR.out _)).mono ?_; rintro e' w' ⟨hs, hb⟩; exact ⟨by rw [hs, HLV.out], HF.out.2.2 _ _ (hb.mono (HF.out.2.1 _).size)⟩)
        | (go_at_call 54; refine (id_r r gp gk R pred _ (HR.out _)).mono ?_; rintro e' w' ⟨hs, hb⟩; exact ⟨by rw [hs, HYI.out], by subst hb; exact ⟨_, rfl⟩⟩)
        | (go_at_call 173; refine (in_any _ _ _ _).mono ?_; rintro e' w' ⟨hs, hb⟩; exact ⟨hs, by subst hb; exact ⟨_, rfl⟩⟩)))
      refine wpQuiet_nil ?_
      rintro _ ⟨i, rfl⟩
      have HB4 := HF.out.2.1 i
      go_wp2
      go_ret
      exact ⟨ret_b (by simp), HB.out.trans (HB4.mono HB.out.size)⟩

set_option maxRecDepth 100000 in
set_option maxHeartbeats 2000000 in
theorem nearest_r (r gp gk f gm : Nat) (R : Rg) (G : Int → List Int) (best frm x : Int) (a : Option Addr) (len cap : Nat) (l : List Int) (w : World) (h : RingAt w r gp gk R) (hf : FgAt w f r gm G) (hl : InIn w a len l) :
    Calls Tryz.prog 174 #[.pointer (some ⟨f, 0, none⟩), .int .i64 best, .slice a len cap, .int .u64 frm, .int .u64 x] w fun e w' => e = .returned (.int .i64 (R.nearst frm x best l)) ∧ Below w.heap.size w w' := by
  have H : Hid (RingAt w r gp gk R ∧ FgAt w f r gm G) := ⟨h, hf⟩
  have HL : Hid (InIn w a len l) := hl
  have hm := hl.2.1
  clear h hf hl
  go_enter Tryz.func174, Tryz.ntmps174
  go_wp2
  go_loopg [1, 17] len (fun kx b s wr => ∃ (k : Nat) (bb : Int), s = .int .i64 k ∧ b = .int .i64 bb ∧ k ≤ len ∧ kx = len - k ∧ Hid (Below w.heap.size w wr) ∧ Hid (R.nearst frm x bb (l.drop k) = R.nearst frm x best l))
  case atStart => exact ⟨0, best, rfl, rfl, Nat.zero_le _, rfl, (Below.refl _ _ : Below w.heap.size w w), (rfl : R.nearst frm x best (l.drop 0) = R.nearst frm x best l)⟩
  case round =>
    obtain ⟨k, bb, rfl, rfl, hk, rfl, HB, I⟩ := hrel
    by_cases hlt : k < len
    · have hkI : (0 : Int) ≤ (k : Int) ∧ (k : Int) < (len : Int) := by omega
      obtain ⟨b, o, rfl, hb, _, hc⟩ := (HL.out.below (Nat.le_refl _) HB.out).one (v := Value.int .i64) (fun _ => rfl) (i := k) hlt
      have E : Hid (R.nearst frm x bb (l.drop k) = R.nearst frm x (if R.closer frm x bb (l.getD k 0) then l.getD k 0 else bb) (l.drop (k + 1))) := near_drop R frm x bb l k (by rw [HL.out.1]; exact hlt)
      generalize l.getD k 0 = y at hc E
      have hfx := (H.out.2.below HB.out)
      have c0 := hfx.c0
      have cl := hfx.lt.1
      clear hfx
      cases hlv : R.lives y
      · have HC : Hid (R.lives y = false ∧ R.closer frm x bb y = false) := ⟨hlv, by unfold Rg.closer; rw [hlv]; rfl⟩
        clear hlv
        go_wp2_with (go_at_call 15; refine (lives_r r gp gk R y _ (H.out.1.below HB.out)).mono ?_; rintro e w' ⟨rfl, hb'⟩; rw [HC.out.1])
        go_roundg (len - (k + 1))
        case measure => omega
        case rel => exact ⟨k + 1, bb, by go_num, rfl, by omega, rfl, HB.out.trans (hb'.mono HB.out.size), by rw [← I.out, E.out, HC.out.2]; rfl⟩
      · have HC : Hid (R.lives y = true ∧ R.closer frm x bb y = (withinB (R.idOf y) (R.idOf bb) frm && withinB (R.idOf y) (R.idOf bb) x)) := ⟨hlv, by unfold Rg.closer; rw [hlv]; rfl⟩
        clear hlv
        go_wp2_with fail
        refine (lives_r r gp gk R y _ (H.out.1.below HB.out)).mono ?_
        rintro e w3 ⟨rfl, b3⟩
        rw [HC.out.1]
        have H3 : Hid (Below w.heap.size w w3) := HB.out.trans (b3.mono HB.out.size)
        clear b3 c0 cl hc hb HB
        have hfx := (H.out.2.below H3.out)
        have c0 := hfx.c0
        have cl := hfx.lt.1
        clear hfx
        go_upto_region 5 with fail
        obtain ⟨ι, F, _, hF0, hFb, hFc⟩ := grown_fam w3
        have f0 : ∀ i, (F i).cell? ⟨f, 0, none⟩ = _ := fun i => cell_grown c0 (hFb i)
        have HF : Hid ((∃ i, { w3 with drawn := w3.drawn + 1 } = F i) ∧ (∀ i, Below w3.heap.size w3 (F i)) ∧ (∀ i W, Below w3.heap.size (F i) W → ∃ j, W = F j)) := ⟨hF0, hFb, hFc⟩
        have HR : Hid (∀ i, RingAt (F i) r gp gk R) := fun i => (H.out.1.below H3.out).below (hFb i)
        clear hF0 hFb hFc c0
        refine wp_region_fam F HF.out.1 (by kernel_rfl) (by kernel_rfl) ?_
        repeat (go_big_quiet_step (
          (go_at_call 54; refine (id_r r gp gk R _ _ (HR.out _)).mono ?_; rintro e' w' ⟨hs, hb⟩; exact ⟨hs, by subst hb; exact ⟨_, rfl⟩⟩)))
        refine wpQuiet_nil ?_
        rintro _ ⟨i, rfl⟩
        have HB4 : Hid (Below w.heap.size w (F i)) := H3.out.trans ((HF.out.2.1 i).mono H3.out.size)
        clear f0 HF HR cl
        generalize F i = W4 at HB4 ⊢
        generalize R.idOf y = iy at HC ⊢
        generalize R.idOf bb = ib at HC ⊢
        cases h1 : withinB iy ib frm
        · have HQ : Hid (withinB iy ib frm = false) := h1
          clear h1
          go_wp2_with (go_at_call 125; refine (within_any _ _ _ _).mono ?_; rintro e w' ⟨rfl, hw'⟩; subst w'; rw [HQ.out])
          go_roundg (len - (k + 1))
          case measure => omega
          case rel => exact ⟨k + 1, bb, by go_num, rfl, by omega, rfl, HB4, by rw [← I.out, E.out, HC.out.2, HQ.out]; rfl⟩
        · cases h2 : withinB iy ib x
          · have HQ : Hid (withinB iy ib frm = true ∧ withinB iy ib x = false) := ⟨h1, h2⟩
            clear h1 h2
            go_wp2_with (go_at_call 125; refine (within_any _ _ _ _).mono ?_; rintro e w' ⟨rfl, hw'⟩; subst w'; first | rw [HQ.out.1] | rw [HQ.out.2])
            go_roundg (len - (k + 1))
            case measure => omega
            case rel => exact ⟨k + 1, bb, by go_num, rfl, by omega, rfl, HB4, by rw [← I.out, E.out, HC.out.2, HQ.out.1, HQ.out.2]; rfl⟩
          · have HQ : Hid (withinB iy ib frm = true ∧ withinB iy ib x = true) := ⟨h1, h2⟩
            clear h1 h2
            go_wp2_with (go_at_call 125; refine (within_any _ _ _ _).mono ?_; rintro e w' ⟨rfl, hw'⟩; subst w'; first | rw [HQ.out.1] | rw [HQ.out.2])
            go_roundg (len - (k + 1))
            case measure => omega
            case rel => exact ⟨k + 1, y, by go_num, rfl, by omega, rfl, HB4, by rw [← I.out, E.out, HC.out.2, HQ.out.1, HQ.out.2]; rfl⟩
    · go_wp2
      go_ret
      exact ⟨ret_i (by rw [← I.out, List.drop_of_length_le (by rw [HL.out.1]; omega)]; rfl), HB.out⟩

set_option maxRecDepth 100000 in
set_option maxHeartbeats 2000000 in
theorem next_none (r gp gk f gm : Nat) (R : Rg) (G : Int → List Int) (n x : Int) (w : World) (h : RingAt w r gp gk R) (hf : FgAt w f r gm G) (hn : R.kn n = none) :
    Calls Tryz.prog 134 #[.pointer (some ⟨f, 0, none⟩), .int .i64 n, .int .u64 x] w fun e w' => e = .returned (.tuple #[.int .i64 (-1), .iface 116 (.int .i64 6)]) ∧ Below w.heap.size w w' := by
  have H : Hid (RingAt w r gp gk R ∧ R.kn n = none) := ⟨h, hn⟩
  have c0 := hf.c0
  have cl := hf.lt.1
  clear h hf hn
  go_enter Tryz.func134, Tryz.ntmps134
  go_wp2_with (go_at_call 171; refine (peer_none r gp gk R n _ H.out.1 H.out.2).mono ?_; rintro e w2 ⟨rfl, b2⟩)
  go_ret2
  exact ⟨rfl, b2.trans ((below_one _ _).mono b2.size)⟩

set_option maxRecDepth 100000 in
set_option maxHeartbeats 8000000 in
theorem next_some (r gp gk f gm : Nat) (R : Rg) (G : Int → List Int) (n x : Int) (w : World) (h : RingAt w r gp gk R) (hf : FgAt w f r gm G) (hi : Inv R) (hn : R.lives n = true) :
    Calls Tryz.prog 134 #[.pointer (some ⟨f, 0, none⟩), .int .i64 n, .int .u64 x] w fun e w' => e = .returned (.tuple #[.int .i64 (R.nextTo G x n), .nilIface]) ∧ Below w.heap.size w w' := by
  obtain ⟨p, hkn⟩ : ∃ p, R.kn n = some p := by
    unfold Rg.lives at hn
    cases hq : R.kn n with
    | none => rw [hq] at hn; simp at hn
    | some p => exact ⟨p, rfl⟩
  have hpl := hi.lens _ _ hkn
  have hkw : R.know n = p := by simp [Rg.know, hkn]
  have HN : Hid (R.nextTo G x n = if x == p.id || (p.pred != -1 && (R.lives p.pred && inB x (R.idOf p.pred) p.id)) then n else if inB x p.id (R.idOf (headF R.lv p.succ)) then headF R.lv p.succ else R.nearst p.id x (R.nearst p.id x (headF R.lv p.succ) p.succ) (G n)) := by
    show R.nextTo G x n = _
    unfold Rg.nextTo Rg.owns Rg.head
    rw [hkw]
  have H : Hid (RingAt w r gp gk R ∧ FgAt w f r gm G ∧ R.kn n = some p ∧ p.succ.length ≤ 1000) := ⟨h, hf, hkn, by omega⟩
  have c0 := hf.c0
  have cl := hf.lt.1
  clear h hf hi hn hkn hkw hpl
  go_enter Tryz.func134, Tryz.ntmps134
  go_wp2_with fail
  refine (peer_some r gp gk R n p _ H.out.1 H.out.2.2.1 H.out.2.2.2).mono ?_
  rintro e w2 ⟨a2, l2, c2, rfl, h2, b2⟩
  obtain ⟨pid, ppr, psc⟩ := p
  simp only at h2 HN ⊢
  obtain ⟨W3, hW3⟩ : ∃ W3, W3 = w2.alloc (.cells #[.int .u64 pid, .int .i64 ppr, .slice a2 l2 c2] 80) := ⟨_, rfl⟩
  have b3 : Below w.heap.size w W3 := by rw [hW3]; exact b2.trans ((below_one _ _).mono b2.size)
  have H3 : Hid (Below w.heap.size w W3 ∧ InIn W3 a2 l2 psc ∧ W3.heap[w2.heap.size]? = some (.cells #[.int .u64 pid, .int .i64 ppr, .slice a2 l2 c2] 80 (0, 0))) := ⟨b3, h2.row.below (Nat.le_refl _) (by rw [hW3]; exact below_one _ _), by rw [hW3]; exact heap_alloc_new w2 _⟩
  clear b2 b3 h2 c0 cl
  go_upto_region 2 with fail
  rw [← hW3]
  clear hW3
  generalize w2.heap.size = q at H3 ⊢
  have hfx := H.out.2.1.below H3.out.1
  have c0 := hfx.c0
  have c1 := hfx.c1
  have cl := hfx.lt.1
  clear hfx
  have u0 : W3.cell? ⟨q, 0, none⟩ = some (.int .u64 pid) := by simp [World.cell?, H3.out.2.2]
  have u1 : W3.cell? ⟨q, 1, none⟩ = some (.int .i64 ppr) := by simp [World.cell?, H3.out.2.2]
  have u2 : W3.cell? ⟨q, 2, none⟩ = some (.slice a2 l2 c2) := by simp [World.cell?, H3.out.2.2]
  have ul := cell_block u0
  obtain ⟨own, hown⟩ : ∃ o, o = (ppr != -1 && (R.lives ppr && inB x (R.idOf ppr) pid)) := ⟨_, rfl⟩
  rw [← hown] at HN
  have HOW : Hid ((ppr != -1 && (R.lives ppr && inB x (R.idOf ppr) pid)) = own) := hown.symm
  clear hown
  obtain ⟨hd, hhd⟩ : ∃ o, o = headF R.lv psc := ⟨_, rfl⟩
  rw [← hhd] at HN
  have HHD : Hid (headF R.lv psc = hd) := hhd.symm
  clear hhd
  -- the first question
  obtain ⟨ι, F, _, hF0, hFb, hFc⟩ := grown_fam W3
  have f0 : ∀ i, (F i).cell? ⟨f, 0, none⟩ = _ := fun i => cell_grown c0 (hFb i)
  have g0 : ∀ i, (F i).cell? ⟨q, 0, none⟩ = _ := fun i => cell_grown u0 (hFb i)
  have g1 : ∀ i, (F i).cell? ⟨q, 1, none⟩ = _ := fun i => cell_grown u1 (hFb i)
  have g2 : ∀ i, (F i).cell? ⟨q, 2, none⟩ = _ := fun i => cell_grown u2 (hFb i)
  have HF : Hid ((∃ i, { W3 with drawn := W3.drawn + 1 } = F i) ∧ (∀ i, Below W3.heap.size W3 (F i)) ∧ (∀ i W, Below W3.heap.size (F i) W → ∃ j, W = F j)) := ⟨hF0, hFb, hFc⟩
  have HR : Hid (∀ i, RingAt (F i) r gp gk R) := fun i => (H.out.1.below H3.out.1).below (hFb i)
  clear hF0 hFb hFc
  by_cases hx : x = pid
  · have e1 : (x == pid) = true := by simpa using hx
    have HE : Hid (R.nextTo G x n = n) := by show R.nextTo G x n = n; rw [HN.out, e1]; rfl
    clear hx
    go_upto_region 4 with fail
    refine wp_region_fam F HF.out.1 (by kernel_rfl) (by kernel_rfl) ?_
    repeat (go_big_quiet_step (fail))
    refine wpQuiet_nil ?_
    rintro _ ⟨i, rfl⟩
    have HB4 := HF.out.2.1 i
    go_wp2
    go_ret2
    exact ⟨by rw [HE.out]; first | done | rfl | simp, H3.out.1.trans (HB4.mono H3.out.1.size)⟩
  · have e1 : (x == pid) = false := by simpa using hx
    clear hx
    cases own
    · have HE : Hid (R.nextTo G x n = if inB x pid (R.idOf hd) then hd else R.nearst pid x (R.nearst pid x hd psc) (G n)) := by show R.nextTo G x n = _; rw [HN.out, e1]; rfl
      clear HN
      go_upto_region 4 with fail
      refine wp_region_fam F HF.out.1 (by kernel_rfl) (by kernel_rfl) ?_
      repeat (go_big_quiet_step (
        (go_at_call 172; refine (owns_r r gp gk R pid ppr x a2 l2 c2 _ (HR.out _)).mono ?_; rintro e' w' ⟨hs, hb⟩; exact ⟨by rw [hs, HOW.out], HF.out.2.2 _ _ (hb.mono (HF.out.2.1 _).size)⟩)))
      refine wpQuiet_nil ?_
      rintro _ ⟨i, rfl⟩
      have H4 : Hid (Below w.heap.size w (F i) ∧ InIn (F i) a2 l2 psc ∧ (F i).heap[q]? = some (.cells #[.int .u64 pid, .int .i64 ppr, .slice a2 l2 c2] 80 (0, 0))) := ⟨H3.out.1.trans ((HF.out.2.1 i).mono H3.out.1.size), H3.out.2.1.below (Nat.le_refl _) (HF.out.2.1 i), ((HF.out.2.1 i).block _ (lt_of_block H3.out.2.2)).trans H3.out.2.2⟩
      clear f0 g0 g1 g2 HF HR c0 c1 cl u0 u1 u2 ul H3 HOW
      generalize F i = W4 at H4 ⊢
      have hfx := H.out.2.1.below H4.out.1
      have c0 := hfx.c0
      have c1 := hfx.c1
      have cl := hfx.lt.1
      clear hfx
      have u0 : W4.cell? ⟨q, 0, none⟩ = some (.int .u64 pid) := by simp [World.cell?, H4.out.2.2]
      have u1 : W4.cell? ⟨q, 1, none⟩ = some (.int .i64 ppr) := by simp [World.cell?, H4.out.2.2]
      have u2 : W4.cell? ⟨q, 2, none⟩ = some (.slice a2 l2 c2) := by simp [World.cell?, H4.out.2.2]
      have ul := cell_block u0
      -- the head
      obtain ⟨ι2, F, _, hF0, hFb, hFc⟩ := grown_fam W4
      have f0 : ∀ i, (F i).cell? ⟨f, 0, none⟩ = _ := fun i => cell_grown c0 (hFb i)
      have g0 : ∀ i, (F i).cell? ⟨q, 0, none⟩ = _ := fun i => cell_grown u0 (hFb i)
      have g1 : ∀ i, (F i).cell? ⟨q, 1, none⟩ = _ := fun i => cell_grown u1 (hFb i)
      have g2 : ∀ i, (F i).cell? ⟨q, 2, none⟩ = _ := fun i => cell_grown u2 (hFb i)
      have HF : Hid ((∃ i, { W4 with drawn := W4.drawn + 1 } = F i) ∧ (∀ i, Below W4.heap.size W4 (F i)) ∧ (∀ i W, Below W4.heap.size (F i) W → ∃ j, W = F j)) := ⟨hF0, hFb, hFc⟩
      have HR : Hid (∀ i, RingAt (F i) r gp gk R ∧ InIn (F i) a2 l2 psc) := fun i => ⟨(H.out.1.below H4.out.1).below (hFb i), H4.out.2.1.below (Nat.le_refl _) (hFb i)⟩
      clear hF0 hFb hFc
      go_upto_region 6 with fail
      refine wp_region_fam F HF.out.1 (by kernel_rfl) (by kernel_rfl) ?_
      repeat (go_big_quiet_step (
        (go_at_call 91; refine (head_r r gp gk R _ _ a2 l2 c2 psc _ (HR.out _).1 (HR.out _).2).mono ?_; rintro e' w' ⟨hs, hb⟩; exact ⟨by rw [hs, HHD.out], HF.out.2.2 _ _ (hb.mono (HF.out.2.1 _).size)⟩)))
      refine wpQuiet_nil ?_
      rintro _ ⟨i2, rfl⟩
      have H5 : Hid (Below w.heap.size w (F i2) ∧ InIn (F i2) a2 l2 psc ∧ (F i2).heap[q]? = some (.cells #[.int .u64 pid, .int .i64 ppr, .slice a2 l2 c2] 80 (0, 0))) := ⟨H4.out.1.trans ((HF.out.2.1 i2).mono H4.out.1.size), H4.out.2.1.below (Nat.le_refl _) (HF.out.2.1 i2), ((HF.out.2.1 i2).block _ (lt_of_block H4.out.2.2)).trans H4.out.2.2⟩
      clear f0 g0 g1 g2 HF HR c0 c1 cl u0 u1 u2 ul H4 HHD
      generalize F i2 = W5 at H5 ⊢
      have hfx := H.out.2.1.below H5.out.1
      have c0 := hfx.c0
      have c1 := hfx.c1
      have cl := hfx.lt.1
      clear hfx
      have u0 : W5.cell? ⟨q, 0, none⟩ = some (.int .u64 pid) := by simp [World.cell?, H5.out.2.2]
      have u1 : W5.cell? ⟨q, 1, none⟩ = some (.int .i64 ppr) := by simp [World.cell?, H5.out.2.2]
      have u2 : W5.cell? ⟨q, 2, none⟩ = some (.slice a2 l2 c2) := by simp [World.cell?, H5.out.2.2]
      have ul := cell_block u0
      -- is it the head's?
      obtain ⟨hid, hhid⟩ : ∃ o, o = R.idOf hd := ⟨_, rfl⟩
      rw [← hhid] at HE
      have HID : Hid (R.idOf hd = hid) := hhid.symm
      clear hhid
      obtain ⟨ib, hib⟩ : ∃ o, o = inB x pid hid := ⟨_, rfl⟩
      rw [← hib] at HE
      have HIB : Hid (inB x pid hid = ib) := hib.symm
      clear hib
      obtain ⟨ι3, F, _, hF0, hFb, hFc⟩ := grown_fam W5
      have f0 : ∀ i, (F i).cell? ⟨f, 0, none⟩ = _ := fun i => cell_grown c0 (hFb i)
      have g0 : ∀ i, (F i).cell? ⟨q, 0, none⟩ = _ := fun i => cell_grown u0 (hFb i)
      have HF : Hid ((∃ i, { W5 with drawn := W5.drawn + 1 } = F i) ∧ (∀ i, Below W5.heap.size W5 (F i)) ∧ (∀ i W, Below W5.heap.size (F i) W → ∃ j, W = F j)) := ⟨hF0, hFb, hFc⟩
      have HR : Hid (∀ i, RingAt (F i) r gp gk R) := fun i => (H.out.1.below H5.out.1).below (hFb i)
      clear hF0 hFb hFc
      go_upto_region 7 with fail
      refine wp_region_fam F HF.out.1 (by kernel_rfl) (by kernel_rfl) ?_
      repeat (go_big_quiet_step (first
        | (go_at_call 54; refine (id_r r gp gk R hd _ (HR.out _)).mono ?_; rintro e' w' ⟨hs, hb⟩; exact ⟨by rw [hs, HID.out], by subst hb; exact ⟨_, rfl⟩⟩)
        | (go_at_call 173; refine (in_any _ _ _ _).mono ?_; rintro e' w' ⟨hs, hb⟩; exact ⟨by rw [hs, HIB.out], by subst hb; exact ⟨_, rfl⟩⟩)))
      refine wpQuiet_nil ?_
      rintro _ ⟨i3, rfl⟩
      have H6 : Hid (Below w.heap.size w (F i3) ∧ InIn (F i3) a2 l2 psc ∧ (F i3).heap[q]? = some (.cells #[.int .u64 pid, .int .i64 ppr, .slice a2 l2 c2] 80 (0, 0))) := ⟨H5.out.1.trans ((HF.out.2.1 i3).mono H5.out.1.size), H5.out.2.1.below (Nat.le_refl _) (HF.out.2.1 i3), ((HF.out.2.1 i3).block _ (lt_of_block H5.out.2.2)).trans H5.out.2.2⟩
      clear f0 g0 HF HR c0 c1 cl u0 u1 u2 ul H5 HID HIB
      generalize F i3 = W6 at H6 ⊢
      have hfx := H.out.2.1.below H6.out.1
      have c0 := hfx.c0
      have c1 := hfx.c1
      have cl := hfx.lt.1
      clear hfx
      have u0 : W6.cell? ⟨q, 0, none⟩ = some (.int .u64 pid) := by simp [World.cell?, H6.out.2.2]
      have u1 : W6.cell? ⟨q, 1, none⟩ = some (.int .i64 ppr) := by simp [World.cell?, H6.out.2.2]
      have u2 : W6.cell? ⟨q, 2, none⟩ = some (.slice a2 l2 c2) := by simp [World.cell?, H6.out.2.2]
      have ul := cell_block u0
      cases ib
      · obtain ⟨nb, hnb⟩ : ∃ o, o = R.nearst pid x hd psc := ⟨_, rfl⟩
        rw [← hnb] at HE
        have HNB : Hid (R.nearst pid x hd psc = nb) := hnb.symm
        clear hnb
        go_wp2_with fail
        refine (nearest_r r gp gk f gm R G hd pid x a2 l2 c2 psc _ (H.out.1.below H6.out.1) (H.out.2.1.below H6.out.1) H6.out.2.1).mono ?_
        rintro e w7 ⟨rfl, b7⟩
        rw [HNB.out]
        have H7 : Hid (Below w.heap.size w w7 ∧ w7.heap[q]? = some (.cells #[.int .u64 pid, .int .i64 ppr, .slice a2 l2 c2] 80 (0, 0))) := ⟨H6.out.1.trans (b7.mono H6.out.1.size), (b7.block _ (lt_of_block H6.out.2.2)).trans H6.out.2.2⟩
        clear c0 c1 cl u0 u1 u2 ul b7 H6 HNB
        have hfx := H.out.2.1.below H7.out.1
        obtain ⟨ag, lg, cg, hag, _, _, _, hlk⟩ := hfx.ask n
        have c0 := hfx.c0
        have c1 := hfx.c1
        have cl := hfx.lt.1
        have u0 : w7.cell? ⟨q, 0, none⟩ = some (.int .u64 pid) := by simp [World.cell?, H7.out.2]
        have ul := cell_block u0
        obtain ⟨ι4, F, _, hF0, hFb, hFc⟩ := grown_fam w7
        have f1 : ∀ i, (F i).cell? ⟨f, 1, none⟩ = _ := fun i => cell_grown c1 (hFb i)
        have g0 : ∀ i, (F i).cell? ⟨q, 0, none⟩ = _ := fun i => cell_grown u0 (hFb i)
        have k0 : ∀ i, (Instr.lookup 105 (.map (some gm)) (.int .i64 n) false).run Tryz.prog (F i) = .ok (.slice ag lg cg) (F i) := fun i => hlk _ (hFb i)
        have HF : Hid ((∃ i, { w7 with drawn := w7.drawn + 1 } = F i) ∧ (∀ i, Below w7.heap.size w7 (F i)) ∧ (∀ i W, Below w7.heap.size (F i) W → ∃ j, W = F j)) := ⟨hF0, hFb, hFc⟩
        have HR : Hid (∀ i, RingAt (F i) r gp gk R ∧ FgAt (F i) f r gm G ∧ InIn (F i) ag lg (G n)) := fun i => ⟨(H.out.1.below H7.out.1).below (hFb i), hfx.below (hFb i), hag.below (Nat.le_refl _) (hFb i)⟩
        clear hF0 hFb hFc hlk hag hfx
        obtain ⟨res, hres⟩ : ∃ o, o = R.nearst pid x nb (G n) := ⟨_, rfl⟩
        rw [← hres] at HE
        have HRS : Hid (R.nearst pid x nb (G n) = res) := hres.symm
        clear hres
        go_upto_region 10 with fail
        refine wp_region_fam F HF.out.1 (by kernel_rfl) (by kernel_rfl) ?_
        repeat (go_big_quiet_step (
          (go_at_call 174; refine (nearest_r r gp gk f gm R G nb pid x ag lg cg (G n) _ (HR.out _).1 (HR.out _).2.1 (HR.out _).2.2).mono ?_; rintro e' w' ⟨hs, hb⟩; exact ⟨by rw [hs, HRS.out], HF.out.2.2 _ _ (hb.mono (HF.out.2.1 _).size)⟩)))
        refine wpQuiet_nil ?_
        rintro _ ⟨i4, rfl⟩
        have HB8 := HF.out.2.1 i4
        go_wp2
        go_ret2
        exact ⟨by rw [HE.out]; first | done | rfl | simp, H7.out.1.trans (HB8.mono H7.out.1.size)⟩
      · go_wp2
        go_ret2
        exact ⟨by rw [HE.out]; first | done | rfl | simp, H6.out.1⟩
    · have HE : Hid (R.nextTo G x n = n) := by show R.nextTo G x n = n; rw [HN.out, e1]; rfl
      clear HN
      go_upto_region 4 with fail
      refine wp_region_fam F HF.out.1 (by kernel_rfl) (by kernel_rfl) ?_
      repeat (go_big_quiet_step (
        (go_at_call 172; refine (owns_r r gp gk R pid ppr x a2 l2 c2 _ (HR.out _)).mono ?_; rintro e' w' ⟨hs, hb⟩; exact ⟨by rw [hs, HOW.out], HF.out.2.2 _ _ (hb.mono (HF.out.2.1 _).size)⟩)))
      refine wpQuiet_nil ?_
      rintro _ ⟨i, rfl⟩
      have HB4 := HF.out.2.1 i
      go_wp2
      go_ret2
      exact ⟨by rw [HE.out]; first | done | rfl | simp, H3.out.1.trans (HB4.mono H3.out.1.size)⟩
end Go.Proofs.YtmajlldfiiokoaaGreatDoor

/- Who may go: lists with two that live; a ring that nobody left. The base of the document's example. No program in sight. -/
namespace Go.Proofs.YtmajlldfiiokoaaGreatDoor
set_option linter.unusedVariables false

/-- A list with two that live. -/
def Dbl (m : Int) (R : Rg) : Prop := ∃ x y, x ∈ (R.know m).succ ∧ y ∈ (R.know m).succ ∧ x ≠ y ∧ R.lives x = true ∧ R.lives y = true
theorem Inv.free {R : Rg} (h : Inv R) (hd : ∀ m, R.lives m = true → Dbl m R) {n : Int} (hn : R.lives n = true) (h4 : 4 ≤ n) : R.failC n = 0 := by
  have hnd : R.needed n = false := by
    unfold Rg.needed anyF
    rw [List.any_eq_false]
    intro m hm
    have hl := ((mem_live R m).1 hm).2.2
    obtain ⟨x, y, hx, hy, hxy, lx, ly⟩ := hd m hl
    have key : ∃ z ∈ (R.know m).succ, (fun x => x != -1 && (x != n && R.lives x)) z = true := by
      have rx := (h.rng x lx).1
      have ry := (h.rng y ly).1
      by_cases e : x = n
      · refine ⟨y, hy, ?_⟩
        have : y ≠ n := fun q => hxy (e.trans q.symm)
        simp [ly, this]; omega
      · refine ⟨x, hx, ?_⟩
        simp [lx, e]; omega
    have hs := (headF_spec key).1
    simp only [Bool.and_eq_true, bne_iff_ne] at hs
    unfold Rg.lone
    have e1 : (headF (fun x => x != -1 && (x != n && R.lives x)) (R.know m).succ == -1) = false := by simpa using hs.1
    rw [e1]; simp
  unfold Rg.failC
  rw [hn, hnd]
  have : ¬ n < 4 := by omega
  simp [this]
/-- Nobody went. -/
def NW (R : Rg) : Prop := ∀ x, (R.pl x).isSome = true → R.lives x = true
theorem Inv.dbl_nw {R : Rg} (h : Inv R) (hw : NW R) (m : Int) (hm : R.lives m = true) : Dbl m R := by
  have hl := h.len m hm
  have hall : ∀ x ∈ (R.know m).succ, R.lives x = true := fun x hx => hw x (h.mem m hm x hx)
  have hc := h.ch m hm
  unfold Dbl
  match hs : (R.know m).succ, hl with
  | [s1, s2, s3], _ =>
    rw [hs] at hall hc
    have l1 := hall s1 (by simp)
    have l2 := hall s2 (by simp)
    simp only [Chain, l1, l2, if_true] at hc
    exact ⟨s1, s2, by simp, by simp, fun e => h.apart hc.2.1 e.symm, l1, l2⟩
theorem NW.join {R : Rg} (hw : NW R) (n id via : Int) : NW (R.join n id via) := by
  unfold Rg.join
  split
  · intro x hx
    rw [pl_joined] at hx
    rw [lives_joined]
    split
    · rfl
    · rename_i e; rw [if_neg e] at hx; exact hw x hx
  · exact hw
theorem NW.round {R : Rg} (h : Inv R) (hw : NW R) : NW R.round := by
  intro x hx
  rw [lives_round h]
  rw [(round_alike R).2] at hx
  exact hw x hx
theorem pl_round (R : Rg) : R.round.pl = R.pl := (round_alike R).2
theorem idOf_round (R : Rg) (x : Int) : R.round.idOf x = R.idOf x := (round_alike R).idOf x

theorem ringA_pl (x : Int) : (ringA.pl x).isSome = true ↔ 0 ≤ x ∧ x < 4 := by
  have e : ringA.pl x = if x = 3 then some 40 else if x = 2 then some 30 else if x = 1 then some 20 else if x = 0 then some 10 else none := rfl
  rw [e]
  split
  · simp; omega
  · split
    · simp; omega
    · split
      · simp; omega
      · split
        · simp; omega
        · simp; omega
theorem ringA_lives (x : Int) : ringA.lives x = true ↔ 0 ≤ x ∧ x < 4 := by
  have e : ringA.kn x = if x = 3 then some ⟨40, 2, [0, 1, 2]⟩ else if x = 2 then some ⟨30, 1, [3, 0, 1]⟩ else if x = 1 then some ⟨20, 0, [2, 3, 0]⟩ else if x = 0 then some ⟨10, 3, [1, 2, 3]⟩ else none := rfl
  unfold Rg.lives
  rw [e]
  split
  · simp; omega
  · split
    · simp; omega
    · split
      · simp; omega
      · split
        · simp; omega
        · simp; omega
theorem ringA_inv : Inv ringA := by
  have hp : ids4.Pairwise (· < ·) := by simp [ids4]
  have hm : ∀ x, x ∈ ids4 ↔ x ∈ ids4 := fun _ => Iff.rfl
  obtain ⟨c0, c1, c2, c3, hc⟩ := circ_of (l := ids4) rfl hp hm rfl
  refine hc.inv hp hm (fun k => ?_)
  match k with
  | 0 => simp [ids4, Plc]
  | 1 => simp [ids4, Plc]
  | 2 => simp [ids4, Plc]
  | 3 => simp [ids4, Plc]
  | k + 4 => simp [ids4, Plc]
theorem ringA_nw : NW ringA := fun x hx => (ringA_lives x).2 ((ringA_pl x).1 hx)

theorem joinC_of {R : Rg} {n id via : Int} (h0 : 0 ≤ n) (h1 : n < 32) (hp : (R.pl n).isSome = false) (hv : R.lives via = true) : R.joinC n id via = if R.taken id then 8 else if R.ahead id via = -1 then 5 else 0 := by
  unfold Rg.joinC
  rw [if_neg (by omega), hp, hv]
  simp
theorem taken_of {R : Rg} {n id : Int} (h : Inv R) (hn : R.lives n = true) (hid : R.idOf n = id) : R.taken id = true := by
  unfold Rg.taken anyF
  rw [List.any_eq_true]
  exact ⟨n, h.in_live hn, by simp [hid]⟩
theorem not_taken_of {R : Rg} {id : Int} (h : ∀ n, R.lives n = true → R.idOf n ≠ id) : R.taken id = false := by
  unfold Rg.taken anyF
  rw [List.any_eq_false]
  intro n hn
  simpa using h n ((mem_live R n).1 hn).2.2
/-- What the calls of ChordTaken come to. -/
theorem taken_calls {n m id : Int} (hn : 4 ≤ n) (hn2 : n < 32) (hm : 4 ≤ m) (hm2 : m < 32) (hne : n ≠ m) (hid : Plc id) :
    (ringA.joinC n id 0 = 8 ∧ (ringA.join n id 0).joinC m id 1 = 8) ∨
    (ringA.joinC n id 0 = 0 ∧ (ringA.join n id 0).joinC m id 1 = 8 ∧ (((ringA.join n id 0).join m id 1).round).failC n = 0 ∧
      ((((ringA.join n id 0).join m id 1).round.fail n).round).joinC m id 2 = 0 ∧
      (((((ringA.join n id 0).join m id 1).round.fail n).round).join m id 2).lives m = true ∧ (((((ringA.join n id 0).join m id 1).round.fail n).round).join m id 2).lives n = false) := by
  have hi := ringA_inv
  have pn : (ringA.pl n).isSome = false := by
    cases h : (ringA.pl n).isSome
    · rfl
    · have := (ringA_pl n).1 h; omega
  have pm : (ringA.pl m).isSome = false := by
    cases h : (ringA.pl m).isSome
    · rfl
    · have := (ringA_pl m).1 h; omega
  have j1 := joinC_of (R := ringA) (id := id) (via := 0) (by omega) hn2 pn (hi.base 0 (by omega) (by omega))
  cases ht : ringA.taken id
  · rw [ht] at j1
    have ha := hi.ahead (via := 0) hid ht (hi.base 0 (by omega) (by omega))
    have hr := (hi.rng _ ha.1).1
    rw [if_neg (by simp), if_neg (by omega)] at j1
    right
    refine ⟨j1, ?_⟩
    have hi1 := hi.join n id 0 hid
    have nw1 := ringA_nw.join n id 0
    have e1 : ringA.join n id 0 = ringA.joined n id (ringA.ahead id 0) := if_pos j1
    have lv1 : ∀ x, (ringA.join n id 0).lives x = if x = n then true else ringA.lives x := fun x => by rw [e1, lives_joined]
    have pl1 : ∀ x, (ringA.join n id 0).pl x = if x = n then some id else ringA.pl x := fun x => by rw [e1, pl_joined]
    have io1 : ∀ x, (ringA.join n id 0).idOf x = if x = n then id else ringA.idOf x := fun x => by unfold Rg.idOf; rw [pl1]; split <;> rfl
    generalize ringA.join n id 0 = R1 at *
    have tk : R1.taken id = true := taken_of hi1 (n := n) (by rw [lv1, if_pos rfl]) (by rw [io1, if_pos rfl])
    have j2 : R1.joinC m id 1 = 8 := by
      rw [joinC_of (by omega) hm2 (by rw [pl1, if_neg (Ne.symm hne)]; exact pm) (hi1.base 1 (by omega) (by omega)), tk]; rfl
    have e2 : R1.join m id 1 = R1 := by unfold Rg.join; rw [j2]; rfl
    rw [e2]
    refine ⟨j2, ?_⟩
    have hi2 := hi1.round
    have nw2 := nw1.round hi1
    have ln : R1.round.lives n = true := by rw [lives_round hi1, lv1, if_pos rfl]
    have f := hi2.free (hi2.dbl_nw nw2) ln hn
    refine ⟨f, ?_⟩
    have hi3 := hi2.fail n
    have e3 : R1.round.fail n = R1.round.delK n := if_pos f
    rw [e3] at hi3 ⊢
    have hi4 := hi3.round
    have lv4 : ∀ x, (R1.round.delK n).round.lives x = if x = n then false else ringA.lives x := fun x => by
      rw [lives_round hi3, lives_delK]
      split
      · rfl
      · rename_i e; rw [lives_round hi1, lv1, if_neg e]
    have pl4 : ∀ x, (R1.round.delK n).round.pl x = if x = n then some id else ringA.pl x := fun x => by
      rw [pl_round]
      show R1.round.pl x = _
      rw [pl_round, pl1]
    generalize (R1.round.delK n).round = R4 at *
    have tk4 : R4.taken id = false := not_taken_of (fun x hx => by
      rw [lv4] at hx
      by_cases e : x = n
      · rw [if_pos e] at hx; cases hx
      · rw [if_neg e] at hx
        have := not_taken ht (hi.in_live hx)
        unfold Rg.idOf at *
        rw [pl4, if_neg e]; exact this)
    have ha4 := hi4.ahead (via := 2) hid tk4 (hi4.base 2 (by omega) (by omega))
    have hr4 := (hi4.rng _ ha4.1).1
    have j4 : R4.joinC m id 2 = 0 := by
      rw [joinC_of (by omega) hm2 (by rw [pl4, if_neg (Ne.symm hne)]; exact pm) (hi4.base 2 (by omega) (by omega)), tk4, if_neg (by simp), if_neg (by omega)]
    have e5 : R4.join m id 2 = R4.joined m id (R4.ahead id 2) := if_pos j4
    refine ⟨j4, ?_, ?_⟩
    · rw [e5, lives_joined, if_pos rfl]
    · rw [e5, lives_joined, if_neg hne, lv4, if_pos rfl]
  · rw [ht] at j1
    left
    have j1' : ringA.joinC n id 0 = 8 := by rw [j1]; rfl
    have e1 : ringA.join n id 0 = ringA := by unfold Rg.join; rw [j1']; rfl
    refine ⟨j1', ?_⟩
    rw [e1, joinC_of (by omega) hm2 pm (hi.base 1 (by omega) (by omega)), ht]; rfl
end Go.Proofs.YtmajlldfiiokoaaGreatDoor

/- route.Path. -/
namespace Go.Proofs.YtmajlldfiiokoaaGreatDoor
open Go.ChangeShapes Go.WideShapes Go.ChangeAt Go.RowKit Go.Deep
set_option linter.unusedVariables false

/-- A row of ints of one's own that grows. -/
structure Gi (w wr : World) (v : Value) (n : Nat) (l : List Int) : Prop where
  row : wr.ownsRow w.heap.size 3 1 v n (l.map cellI)
  bel : Below w.heap.size w wr
theorem Gi.nil (w : World) : Gi w w (.slice none 0 0) 0 [] := ⟨World.ownsRow_nil w _ _ _, Below.refl _ _⟩
theorem Gi.below {w wr w' : World} {v : Value} {n : Nat} {l : List Int} (h : Gi w wr v n l) (hb : Below wr.heap.size wr w') : Gi w w' v n l :=
  ⟨h.row.kept (row := none) ⟨hb.os, hb.tape, hb.output, hb.size, fun b hb1 _ => hb.block b hb1⟩ (by cases HH : Value.ownBlock _ <;> simp), h.bel.trans (hb.mono h.bel.size)⟩
theorem Gi.app {w wr w' : World} {v v' : Value} {n : Nat} {l : List Int} {y : Int} (h : Gi w wr v n l) (ha : Appended w.heap.size 3 wr w' v v' (n + 1) (l.map cellI ++ [cellI y])) : Gi w w' v' (n + 1) (l ++ [y]) := by
  have hg := ha.grown
  refine ⟨by rw [List.map_append]; exact ha.row, h.bel.trans ⟨hg.os, hg.tape, hg.output, hg.size, fun b hb => hg.block b (by have := h.bel.size; omega) (fun e => ?_)⟩⟩
  have := (World.ownsRow.lt h.row b e.symm).1
  omega
theorem Gi.in {w wr : World} {a : Option Addr} {n c : Nat} {l : List Int} (h : Gi w wr (.slice a n c) n l) (hok : ∀ x ∈ l, i64 x) (hn : n ≤ 1000) : InIn wr a n l ∧ (a = none → n = 0) ∧ n ≤ c ∧ c ≤ 9223372036854775807 ∧ ∀ x, a = some x → w.heap.size ≤ x.block := by
  refine ⟨in_of_own h.row hok (by omega), fun e => ?_, (own_caps h.row).1, (own_caps h.row).2, own_new h.row⟩
  subst e
  rcases h.row.2 with ⟨_, e⟩ | ⟨g, cap, cur, hv, _⟩
  · exact e
  · cases hv
theorem src_oneI (w : World) (y : Int) : Src Tryz.prog 1 24 (.slice (some ⟨w.heap.size, 0, none⟩) 1 1) 1 [cellI y] (w.alloc (.cells #[.int .i64 y] 3)) :=
  Src.ofSlice _ Tryz.underlying24 _ _ _ _ rfl (World.news_of_block (cs := #[.int .i64 y]) (t := 3) (fr := (0, 0)) (heap_alloc_new w _)) (by simp [cellI, Value.oneCell'])
theorem way_i64 {R : Rg} (h : Inv R) {G : Int → List Int} {x n : Int} (hx : Plc x) (hn : R.lives n = true) (k : Nat) : ∀ y ∈ R.way G x n k, i64 y := fun y hy => by
  obtain ⟨j, _, rfl⟩ := List.mem_map.1 hy
  have := h.rng _ (hop_lives (G := G) h hx hn j)
  unfold i64; omega

set_option maxRecDepth 100000 in
set_option maxHeartbeats 2000000 in
theorem path_none (r gp gk f gm : Nat) (R : Rg) (G : Int → List Int) (n x : Int) (w : World) (h : RingAt w r gp gk R) (hf : FgAt w f r gm G) (hn : R.kn n = none) :
    Calls Tryz.prog 95 #[.pointer (some ⟨f, 0, none⟩), .int .i64 n, .int .u64 x] w fun e w' => e = .returned (.tuple #[.slice none 0 0, .iface 116 (.int .i64 6)]) ∧ Below w.heap.size w w' := by
  have H : Hid (RingAt w r gp gk R ∧ FgAt w f r gm G ∧ R.kn n = none) := ⟨h, hf, hn⟩
  clear h hf hn
  go_enter Tryz.func95, Tryz.ntmps95
  go_wp2
  go_loopg [1, 8, 11] 1 (fun kx nv wv s wr => nv = .int .i64 n ∧ wv = .slice none 0 0 ∧ s = .int .i64 0 ∧ kx = 1 ∧ Hid (Below w.heap.size w wr))
  case atStart => exact ⟨rfl, rfl, rfl, rfl, (Below.refl _ _ : Below w.heap.size w w)⟩
  case round =>
    obtain ⟨rfl, rfl, rfl, rfl, HB⟩ := hrel
    go_wp2_with fail
    refine (next_none r gp gk f gm R G n x _ (H.out.1.below HB.out) (H.out.2.1.below HB.out) H.out.2.2).mono ?_
    rintro e w2 ⟨rfl, b2⟩
    go_wp2
    go_ret2
    exact ⟨rfl, HB.out.trans (b2.mono HB.out.size)⟩

set_option maxRecDepth 100000 in
set_option maxHeartbeats 4000000 in
theorem path_r (r gp gk f gm : Nat) (R : Rg) (G : Int → List Int) (n x : Int) (w : World) (h : RingAt w r gp gk R) (hf : FgAt w f r gm G) (hi : Inv R) (hx : Plc x) (hn : R.lives n = true) :
    Calls Tryz.prog 95 #[.pointer (some ⟨f, 0, none⟩), .int .i64 n, .int .u64 x] w fun e w' =>
      ((∃ (k : Nat) (a : Option Addr) (c : Nat), k < 65 ∧ R.stops G x n k ∧ e = .returned (.tuple #[.slice a (k + 1) c, .nilIface]) ∧ InIn w' a (k + 1) (R.way G x n (k + 1)) ∧ ∀ y, a = some y → w.heap.size ≤ y.block) ∨
       ((∀ k, k < 65 → R.hopTo G x n (k + 1) ≠ R.hopTo G x n k) ∧ e = .returned (.tuple #[.slice none 0 0, .iface 116 (.int .i64 13)]))) ∧ Below w.heap.size w w' := by
  obtain ⟨i0, hif, hz0, hz1, hz2⟩ := info_of Tryz.infoInt
  have H : Hid (RingAt w r gp gk R ∧ FgAt w f r gm G ∧ Inv R ∧ Plc x ∧ R.lives n = true) := ⟨h, hf, hi, hx, hn⟩
  clear h hf hi hx hn
  go_enter Tryz.func95, Tryz.ntmps95
  go_wp2
  go_loopg [1, 8, 11] 65 (fun kx nv wv s wr => ∃ (k : Nat) (m : Int) (a : Option Addr) (c : Nat), s = .int .i64 k ∧ nv = .int .i64 m ∧ wv = .slice a k c ∧ k ≤ 65 ∧ kx = 65 - k ∧ Hid (m = R.hopTo G x n k ∧ Gi w wr (.slice a k c) k (R.way G x n k) ∧ ∀ j, j < k → R.hopTo G x n (j + 1) ≠ R.hopTo G x n j))
  case atStart => exact ⟨0, n, none, 0, rfl, rfl, rfl, by omega, rfl, ⟨rfl, Gi.nil w, fun j hj => absurd hj (Nat.not_lt_zero _)⟩⟩
  case round =>
    obtain ⟨k, m, a, c, rfl, rfl, rfl, hk, rfl, HG⟩ := hrel
    by_cases hlt : k < 65
    · have hkI : (k : Int) < 65 := by omega
      have HL : Hid (R.lives m = true) := by show R.lives m = true; rw [HG.out.1]; exact hop_lives H.out.2.2.1 H.out.2.2.2.1 H.out.2.2.2.2 k
      go_wp2_with fail
      refine (next_some r gp gk f gm R G m x _ (H.out.1.below HG.out.2.1.bel) (H.out.2.1.below HG.out.2.1.bel) H.out.2.2.1 HL.out).mono ?_
      rintro e w2 ⟨rfl, b2⟩
      obtain ⟨m2, hm2⟩ : ∃ m2, m2 = R.nextTo G x m := ⟨_, rfl⟩
      rw [← hm2]
      have HM : Hid (m2 = R.hopTo G x n (k + 1)) := by show m2 = R.nextTo G x (R.hopTo G x n k); rw [← HG.out.1]; exact hm2
      have H2 : Hid (Gi w w2 (.slice a k c) k (R.way G x n k)) := HG.out.2.1.below b2
      clear hm2 b2
      have HA : Hid ((w2.alloc (.cells #[.int .i64 m] 3)).ownsRow w.heap.size 3 1 (.slice a k c) k ((R.way G x n k).map cellI)) := (H2.out.below (below_one _ _)).row
      have HSz : Hid (w.heap.size ≤ w2.heap.size) := H2.out.bel.size
      go_wp2_with (at_builtin; refine wpList_own_append _ rfl _ _ 24 24 rfl w.heap.size 3 i0 _ 8 Tryz.underlying24 hif hz0 hz1 hz2 rfl _ _ _ rfl HA.out _ 1 [cellI m] rfl (src_oneI w2 m) ?c3 ?c4 ?c5 ?_)
      case c3 => unfold maxLen; omega
      case c4 => omega
      case c5 => have := HSz.out; simp; omega
      intro v' w3 ha
      obtain ⟨a', c', rfl⟩ := ha.shape
      have H3 : Hid (Gi w w3 (.slice a' (k + 1) c') (k + 1) (R.way G x n (k + 1))) := by
        have := (H2.out.below (below_one _ _)).app ha
        rw [way_succ, ← HG.out.1]; exact this
      clear ha HA HSz H2
      by_cases he : m2 = m
      · have e1 : (m2 == m) = true := by simpa using he
        have HS : Hid (R.stops G x n k) := ⟨HG.out.2.2, by rw [← HM.out, ← HG.out.1]; exact he⟩
        clear he
        go_wp2
        go_ret2
        have hin := H3.out.in (way_i64 H.out.2.2.1 H.out.2.2.2.1 H.out.2.2.2.2 (k + 1)) (by omega)
        exact ⟨.inl ⟨k, a', c', hlt, HS.out, by simp, hin.1, hin.2.2.2.2⟩, H3.out.bel⟩
      · have e1 : (m2 == m) = false := by simpa using he
        have HS : Hid (∀ j, j < k + 1 → R.hopTo G x n (j + 1) ≠ R.hopTo G x n j) := fun j hj => by
          by_cases q : j < k
          · exact HG.out.2.2 j q
          · obtain rfl : j = k := by omega
            rw [← HM.out, ← HG.out.1]; exact he
        clear he
        go_wp2
        go_roundg (65 - (k + 1))
        case measure => omega
        case rel => exact ⟨k + 1, m2, a', c', by go_num, rfl, by simp, by omega, rfl, ⟨HM.out, H3.out, HS.out⟩⟩
    · obtain rfl : k = 65 := by omega
      go_wp2
      go_ret2
      exact ⟨.inr ⟨HG.out.2.2, rfl⟩, HG.out.2.1.bel⟩
end Go.Proofs.YtmajlldfiiokoaaGreatDoor

/- Ways where all is as it should be. -/
namespace Go.Proofs.YtmajlldfiiokoaaGreatDoor
open Go.ChangeShapes Go.WideShapes Go.ChangeAt Go.RowKit Go.Deep
set_option linter.unusedVariables false

theorem path_calm (r gp gk f gm : Nat) (R : Rg) (G : Int → List Int) (n x : Int) (w : World) (h : RingAt w r gp gk R) (hf : FgAt w f r gm G) (hg : Rgt 3 R) (hx : Plc x) (hn : R.lives n = true) :
    Calls Tryz.prog 95 #[.pointer (some ⟨f, 0, none⟩), .int .i64 n, .int .u64 x] w fun e w' =>
      ∃ (k : Nat) (a : Option Addr) (c : Nat), k < R.live.length ∧ R.stops G x n k ∧ e = .returned (.tuple #[.slice a (k + 1) c, .nilIface]) ∧ InIn w' a (k + 1) (R.way G x n (k + 1)) ∧ Below w.heap.size w w' := by
  obtain ⟨k, hk, hs⟩ := way_ends (G := G) hg.1 hx hg.2.1 hn
  have hll : R.live.length ≤ 32 := liveTo_len R 32
  refine (path_r r gp gk f gm R G n x w h hf hg.1 hx hn).mono ?_
  rintro e w' ⟨q, hb⟩
  rcases q with ⟨k', a, c, _, hs', he, hin, _⟩ | ⟨hno, _⟩
  · obtain rfl : k' = k := stops_uniq hs' hs
    exact ⟨k', a, c, hk, hs, he, hin, hb⟩
  · exact absurd hs.2 (hno k (by omega))
theorem next_head {R : Rg} (h : Inv R) {G : Int → List Int} {x n : Int} (hn : R.lives n = true) (h1 : ¬ (x = R.idOf n ∨ R.owns n x = true)) (h2 : inB x (R.idOf n) (R.idOf (R.head n)) = true) : R.nextTo G x n = R.head n := by
  unfold Rg.nextTo
  rw [h.id n hn]
  have e : (x == R.idOf n || R.owns n x) = false := by
    have q1 : ¬ x = R.idOf n := fun q => h1 (.inl q)
    have q2 : ¬ R.owns n x = true := fun q => h1 (.inr q)
    simp [q1, q2]
  rw [e, h2]; rfl
theorem dist_one {a b x : Int} (ha : Plc a) (hb : Plc b) (hne : a ≠ b) (hx : x = (a + 1) % 18446744073709551616) : dist a x ≤ dist a b := by
  unfold Plc at ha hb
  unfold dist
  subst hx
  omega
/-- The place behind one's own is the next one's. -/
theorem way_next {R : Rg} {C : List Int} (h : Rgt 3 R) (c : Cir R C) (G : Int → List Int) {j : Nat} (hj : j < C.length) : R.stops G ((R.idOf (C.getD j 0) + 1) % 18446744073709551616) (C.getD j 0) 1 ∧ R.hopTo G ((R.idOf (C.getD j 0) + 1) % 18446744073709551616) (C.getD j 0) 1 = C.getD ((j + 1) % C.length) 0 := by
  have hi := h.1
  have h4 := c.four hi
  have hn := c.lv hj
  have ha := c.adj hi hj
  obtain ⟨g1, g2⟩ := h.2.1 _ _ ha
  have hg : ∀ j, j < C.length → (C.map R.idOf).getD j 0 = R.idOf (C.getD j 0) := fun j hj => by simp [List.getD, hj]
  have hr : (C.map R.idOf).Pairwise (· < ·) := List.pairwise_map.2 c.rise
  have hu : ∀ j : Nat, Plc ((C.map R.idOf).getD j 0) := fun j => by
    by_cases q : j < C.length
    · rw [hg j q]; exact hi.u _
    · have e : (C.map R.idOf).getD j 0 = 0 := by simp [List.getD, List.getElem?_eq_none (by simp; omega : (C.map R.idOf).length ≤ j)]
      rw [e]; unfold Plc; omega
  obtain ⟨x, hx⟩ : ∃ x, x = (R.idOf (C.getD j 0) + 1) % 18446744073709551616 := ⟨_, rfl⟩
  have hxp : Plc x := by rw [hx]; unfold Plc; omega
  have hon := owner_next hr hu (i := j) (by simpa using hj)
  rw [hg j hj, List.length_map, ← hx] at hon
  rw [← hx]
  have hnf : ¬ (x = R.idOf (C.getD j 0) ∨ R.owns (C.getD j 0) x = true) := fun q => by
    obtain ⟨k, hk, h1, h2⟩ := stop_owner (G := G) h c hxp hn (((next_spec hi hxp hn).2.1).2 q)
    have e := c.inj hk hj h2
    rw [h1, e] at hon
    have : j = (j + 1) % C.length := by omega
    by_cases q : j + 1 < C.length
    · rw [Nat.mod_eq_of_lt q] at this; omega
    · rw [show j + 1 = C.length by omega, Nat.mod_self] at this; omega
  have un := hi.u (C.getD j 0)
  have ut := hi.u (C.getD ((j + 1) % C.length) 0)
  have hne : R.idOf (C.getD j 0) ≠ R.idOf (C.getD ((j + 1) % C.length) 0) := fun e => ha.2.2.1 (hi.inj _ _ hn ha.2.1 e)
  have hin : inB x (R.idOf (C.getD j 0)) (R.idOf (C.getD ((j + 1) % C.length) 0)) = true := by
    have q1 : x ≠ R.idOf (C.getD j 0) := fun e => hnf (.inl e)
    rw [in_of x _ _ q1 hne]
    have := dist_one un ut hne hx
    simpa using this
  have e1 : R.nextTo G x (C.getD j 0) = C.getD ((j + 1) % C.length) 0 := by
    rw [next_head hi hn hnf (by rw [g1]; exact hin), g1]
  have e2 : R.nextTo G x (C.getD ((j + 1) % C.length) 0) = C.getD ((j + 1) % C.length) 0 := by
    refine ((next_spec hi hxp ha.2.1).2.1).2 (.inr ?_)
    unfold Rg.owns
    rw [g2, hi.id _ ha.2.1]
    have := hi.rng _ hn
    have q : (C.getD j 0 != -1) = true := bne_iff_ne.2 (fun e => by omega)
    rw [q, hn, hin]; rfl
  have h1 : R.hopTo G x (C.getD j 0) 1 = C.getD ((j + 1) % C.length) 0 := e1
  refine ⟨⟨fun i hii => ?_, ?_⟩, h1⟩
  · obtain rfl : i = 0 := by omega
    rw [h1]
    exact fun e => ha.2.2.1 e.symm
  · show R.nextTo G x (R.hopTo G x (C.getD j 0) 1) = _
    rw [h1]; exact e2
theorem way_own {R : Rg} (hi : Inv R) (G : Int → List Int) {n : Int} (hn : R.lives n = true) : R.stops G (R.idOf n) n 0 :=
  ⟨fun j hj => absurd hj (Nat.not_lt_zero _), ((next_spec hi (hi.u n) hn).2.1).2 (.inl rfl)⟩
end Go.Proofs.YtmajlldfiiokoaaGreatDoor

/- There is a circle; the owner of the place behind one's own. No program in sight. -/
namespace Go.Proofs.YtmajlldfiiokoaaGreatDoor
set_option linter.unusedVariables false
theorem cir_ex {R : Rg} (h : Inv R) : ∃ C, Cir R C := by
  have hp : (R.live.mergeSort (fun a b => decide (R.idOf a ≤ R.idOf b))).Perm R.live := List.mergeSort_perm _ _
  have hs : (R.live.mergeSort (fun a b => decide (R.idOf a ≤ R.idOf b))).Pairwise (fun a b => decide (R.idOf a ≤ R.idOf b) = true) :=
    List.pairwise_mergeSort (fun a b c h1 h2 => by simp at *; omega) (fun a b => by simp; omega) _
  generalize R.live.mergeSort (fun a b => decide (R.idOf a ≤ R.idOf b)) = C at hp hs
  have hnd : C.Nodup := hp.nodup_iff.2 (live_nodup R 32)
  have hlv : ∀ x, x ∈ C ↔ R.lives x = true := fun x => by
    rw [hp.mem_iff]
    exact ⟨fun q => ((mem_live R x).1 q).2.2, fun q => h.in_live q⟩
  refine ⟨C, ?_, hlv, hp.length_eq⟩
  refine List.Pairwise.imp_of_mem (R := fun a b => decide (R.idOf a ≤ R.idOf b) = true ∧ a ≠ b) (fun ha hb q => ?_) (hs.and hnd)
  have h1 := of_decide_eq_true q.1
  rcases Int.lt_or_eq_of_le h1 with q2 | q2
  · exact q2
  · exact absurd (h.inj _ _ ((hlv _).1 ha) ((hlv _).1 hb) q2) q.2
/-- The way to the place behind one's own: to the head, and no further. -/
theorem way_head {R : Rg} (h : Rgt 3 R) (G : Int → List Int) {y : Int} (hy : R.lives y = true) : R.stops G ((R.idOf y + 1) % 18446744073709551616) y 1 ∧ R.hopTo G ((R.idOf y + 1) % 18446744073709551616) y 1 = R.head y := by
  obtain ⟨C, c⟩ := cir_ex h.1
  obtain ⟨j, hj, rfl⟩ := c.at_ hy
  have q := way_next h c G hj
  exact ⟨q.1, by rw [q.2, (h.2.1 _ _ (c.adj h.1 hj)).1]⟩
/-- The owner of the place behind one's own is the head. -/
theorem owner_head {R : Rg} {C : List Int} (h : Rgt 3 R) (c : Cir R C) {y : Int} (hy : R.lives y = true) : ∃ k : Nat, k < C.length ∧ ownerN (C.map R.idOf) ((R.idOf y + 1) % 18446744073709551616) = k ∧ C.getD k 0 = R.head y := by
  obtain ⟨j, hj, rfl⟩ := c.at_ hy
  have hi := h.1
  have hg : ∀ j, j < C.length → (C.map R.idOf).getD j 0 = R.idOf (C.getD j 0) := fun j hj => by simp [List.getD, hj]
  have hr : (C.map R.idOf).Pairwise (· < ·) := List.pairwise_map.2 c.rise
  have hu : ∀ j : Nat, Plc ((C.map R.idOf).getD j 0) := fun j => by
    by_cases q : j < C.length
    · rw [hg j q]; exact hi.u _
    · have e : (C.map R.idOf).getD j 0 = 0 := by simp [List.getD, List.getElem?_eq_none (by simp; omega : (C.map R.idOf).length ≤ j)]
      rw [e]; unfold Plc; omega
  have hon := owner_next hr hu (i := j) (by simpa using hj)
  rw [hg j hj, List.length_map] at hon
  exact ⟨(j + 1) % C.length, Nat.mod_lt _ (by omega), hon, by rw [(h.2.1 _ _ (c.adj hi hj)).1]⟩
end Go.Proofs.YtmajlldfiiokoaaGreatDoor

/- Trees over a ring: who is next by its fingers. -/
namespace Go.Proofs.YtmajlldfiiokoaaGreatDoor
open Go.ChangeShapes Go.WideShapes Go.ChangeAt Go.RowKit Go.Deep
set_option linter.unusedVariables false

def nxR (R : Rg) (G : Int → List Int) (x n : Int) : Option Int := if R.lives n = true then some (R.nextTo G x n) else none
theorem nxR_neg {R : Rg} (h : Inv R) (G : Int → List Int) (x : Int) : nxR R G x (-1) = none := by
  unfold nxR
  rw [if_neg (fun e => by have := h.rng _ e; omega)]
theorem itr_hop (R : Rg) (G : Int → List Int) (x : Int) : ∀ (k : Nat) (n : Int), itr (R.nextTo G x) k n = R.hopTo G x n k
  | 0, n => rfl
  | k + 1, n => by rw [itr_out, itr_hop R G x k n]; rfl
theorem conv_ring {R : Rg} (h : Rgt 3 R) {C : List Int} (c : Cir R C) (G : Int → List Int) {x : Int} (hx : Plc x) :
    ∃ r, Conv (nxR R G x) (fun n => R.lives n = true) (R.nextTo G x) r ∧ ∃ k : Nat, k < C.length ∧ ownerN (C.map R.idOf) x = k ∧ C.getD k 0 = r := by
  have hi := h.1
  have hll : R.live.length ≤ 32 := liveTo_len R 32
  have h0 := hi.base 0 (by omega) (by omega)
  obtain ⟨k0, _, hs0⟩ := way_ends (G := G) hi hx h.2.1 h0
  obtain ⟨i, hi1, hi2, hi3⟩ := stop_owner h c (G := G) hx (hop_lives hi hx h0 k0) hs0.2
  have hfix : ∀ n, R.lives n = true → R.nextTo G x n = n → n = C.getD i 0 := fun n hn hs => by
    obtain ⟨j, _, hj2, hj3⟩ := stop_owner h c (G := G) hx hn hs
    rw [hi2] at hj2
    have : i = j := by omega
    rw [this]; exact hj3.symm
  refine ⟨C.getD i 0, ⟨fun n hn => if_pos hn, fun n hn => (next_spec (G := G) hi hx hn).1, hfix, fun n hn => ?_, ?_⟩, i, hi1, hi2, rfl⟩
  · obtain ⟨k, hk, hs⟩ := way_ends (G := G) hi hx h.2.1 hn
    exact ⟨k, by omega, by rw [itr_hop]; exact hfix _ (hop_lives hi hx hn k) hs.2⟩
  · rw [hi3]
    refine ⟨hs0.2, hop_lives hi hx h0 k0, fun e => ?_⟩
    have := hi.rng _ (hop_lives (G := G) hi hx h0 k0)
    omega
theorem nxR_dead {R : Rg} {G : Int → List Int} {x n : Int} (h : ¬ R.lives n = true) : nxR R G x n = none := if_neg h
theorem mth_fing (a : Addr) (w : World) : (method 432 38 (.pointer (some a)) "Next").run Tryz.prog w = .ok (134, .pointer (some a)) w := by kernel_rfl
theorem ent_fing (args : Array Value) (w : World) : (callFunc 134 args).run Tryz.prog w = .ok (.enter 134 args) w := by kernel_rfl
theorem wk_ring (w : World) (r gp gk f gm : Nat) (R : Rg) (G : Int → List Int) (x : Int) (h : RingAt w r gp gk R) (hf : FgAt w f r gm G) (hi : Inv R) : Wk w 38 (.pointer (some ⟨f, 0, none⟩)) 134 x (nxR R G x) := by
  refine ⟨mth_fing _, ent_fing, fun W n hW => ?_⟩
  by_cases hn : R.lives n = true
  · have := next_some r gp gk f gm R G n x W (h.below hW) (hf.below hW) hi hn
    unfold nxR
    rw [if_pos hn]
    exact this
  · have hk : R.kn n = none := by
      unfold Rg.lives at hn
      cases hq : R.kn n with
      | none => rfl
      | some p => rw [hq] at hn; exact absurd rfl hn
    have := next_none r gp gk f gm R G n x W (h.below hW) (hf.below hW) hk
    unfold nxR
    rw [if_neg hn]
    exact this
theorem four {x : Int} (h : ringA.lives x = true) : x = 0 ∨ x = 1 ∨ x = 2 ∨ x = 3 := by
  have := (ringA_lives x).1 h
  omega
theorem adjA (c s y : Int) (hy : 0 ≤ y ∧ y < 4) (h : withinB (ringA.idOf y) (ringA.idOf c) (ringA.idOf s) = true) : ¬ Adj ringA c s := fun ha => by
  have := ha.2.2.2 y ((ringA_lives y).2 hy)
  rw [h] at this; cases this
theorem adjA_ok : Adj ringA 0 1 ∧ Adj ringA 1 2 ∧ Adj ringA 2 3 ∧ Adj ringA 3 0 := by
  refine ⟨⟨by rfl, by rfl, by decide, fun y hy => ?_⟩, ⟨by rfl, by rfl, by decide, fun y hy => ?_⟩, ⟨by rfl, by rfl, by decide, fun y hy => ?_⟩, ⟨by rfl, by rfl, by decide, fun y hy => ?_⟩⟩ <;>
    rcases four hy with rfl | rfl | rfl | rfl <;> rfl
theorem hdsA : Hds ringA := fun c s ha => by
  rcases four ha.1 with rfl | rfl | rfl | rfl <;> rcases four ha.2.1 with rfl | rfl | rfl | rfl <;>
    first
    | exact ⟨by rfl, by rfl⟩
    | exact absurd rfl ha.2.2.1
    | exact absurd ha (adjA _ _ 0 (by omega) (by rfl))
    | exact absurd ha (adjA _ _ 1 (by omega) (by rfl))
    | exact absurd ha (adjA _ _ 2 (by omega) (by rfl))
    | exact absurd ha (adjA _ _ 3 (by omega) (by rfl))
theorem ringA_rgt : Rgt 3 ringA := by
  obtain ⟨a0, a1, a2, a3⟩ := adjA_ok
  refine ⟨ringA_inv, hdsA, fun c hc => ?_⟩
  rcases four hc with rfl | rfl | rfl | rfl
  · show AdjC ringA 0 [1, 2, 3]; exact ⟨a0, a1, a2, trivial⟩
  · show AdjC ringA 1 [2, 3, 0]; exact ⟨a1, a2, a3, trivial⟩
  · show AdjC ringA 2 [3, 0, 1]; exact ⟨a2, a3, a0, trivial⟩
  · show AdjC ringA 3 [0, 1, 2]; exact ⟨a3, a0, a1, trivial⟩
end Go.Proofs.YtmajlldfiiokoaaGreatDoor

/- tree.Tree.Nodes. -/
namespace Go.Proofs.YtmajlldfiiokoaaGreatDoor
open Go.ChangeShapes Go.WideShapes Go.ChangeAt Go.RowKit Go.Deep
open Go.ChangeMaps (setBlock)
set_option linter.unusedVariables false

/-- The loop of Nodes, behind the root. -/
structure NdPre (W W3 : World) (root : Int) (B : Nat) (l0 : List Int) (v : Value) : Prop where
  bel : Below W.heap.size W W3
  lo : W.heap.size ≤ B
  row : W3.ownsRow B 3 1 v l0.length (l0.map cellI)
  ls : l0 = if root = -1 then [] else [root]

set_option maxRecDepth 100000 in
set_option maxHeartbeats 2000000 in
theorem nodes_t (nx : Int → Option Int) (t : Tr) (g : Nat) (w : World) (h : UpAt w g t.up) (hl : t.up.length ≤ 100000) (hi : ∀ k ∈ t.up.map (·.1), i64 k) (hr : i64 t.root) (hok : TrOk nx t) :
    Calls Tryz.prog 19 #[.agg #[.int .i64 t.root, .map (some g)]] w fun e w' => ∃ v l, e = .returned v ∧ SlI w' v l ∧ l.Pairwise (· < ·) ∧ (∀ x, x ∈ l ↔ t.inT x) ∧ Below w.heap.size w w' := by
  obtain ⟨i0, hif, hz0, hz1, hz2⟩ := info_of Tryz.infoInt
  obtain ⟨root, up⟩ := t
  simp only at h hl hi hr ⊢
  have hnd : (up.map (·.1)).Nodup := hok.nd
  obtain ⟨q, hq⟩ : ∃ q, q = w.heap.size := ⟨_, rfl⟩
  obtain ⟨W, hW⟩ : ∃ W, W = w.alloc (.cells #[.int .i64 root, .map (some g)] 43) := ⟨_, rfl⟩
  have hbW : Below w.heap.size w W := by rw [hW]; exact below_one _ _
  have c0 : W.cell? ⟨q, 0, none⟩ = some (.int .i64 root) := by rw [hW, hq]; exact World.cell?_alloc_new ..
  have c1 : W.cell? ⟨q, 1, none⟩ = some (.map (some g)) := by rw [hW, hq]; simp
  have HW : Hid (Below w.heap.size w W ∧ UpAt W g up) := ⟨hbW, h.below hbW⟩
  have HI : Hid ((∀ k ∈ up.map (·.1), i64 k) ∧ (up.map (·.1)).Nodup ∧ up.length ≤ 100000 ∧ i64 root) := ⟨hi, hnd, hl, hr⟩
  clear h hl hi hnd hbW hr hok
  go_enter Tryz.func19, Tryz.ntmps19
  go_upto_region 1 with fail
  rw [← hW]
  try rw [← hq]
  clear hW hq
  go_upto_if 7 with fail
  go_cut [3] (fun v wx => ∃ (a : Option Addr) (m c : Nat), v = .slice a m c ∧ Hid (∃ l0, l0.length = m ∧ NdPre W wx root W.heap.size l0 (.slice a m c)))
  case first =>
    by_cases hx : root = -1
    · have e1 : (root != -1) = false := by simpa using hx
      have H3 : Hid (NdPre W W root W.heap.size [] (.slice none 0 0)) := ⟨Below.refl _ _, Nat.le_refl _, World.ownsRow_nil _ _ _ _, by rw [if_pos hx]⟩
      clear hx
      go_wp2
      go_meet
      exact ⟨none, 0, 0, rfl, ⟨[], rfl, H3.out⟩⟩
    · have e1 : (root != -1) = true := by simpa using hx
      have HX : Hid (root ≠ -1) := hx
      clear hx
      have HA : Hid ((W.alloc (.cells #[.int .i64 root] 3)).ownsRow W.heap.size 3 1 (.slice none 0 0) 0 ([].map cellI)) := World.ownsRow_nil _ _ _ _
      go_wp2_with (at_builtin; refine wpList_own_append _ rfl _ _ 24 24 rfl W.heap.size 3 i0 _ 8 Tryz.underlying24 hif hz0 hz1 hz2 rfl _ _ _ rfl HA.out _ 1 [cellI root] rfl (src_oneT W root) (by unfold maxLen; omega) (by omega) (by simp) ?_)
      intro v' w6 ha
      obtain ⟨a', c', rfl⟩ := ha.shape
      have H3 : Hid (NdPre W w6 root W.heap.size [root] (.slice a' (0 + 1) c')) := by
        have b1 : Below W.heap.size W (W.alloc (.cells #[.int .i64 root] 3)) := below_one _ _
        refine ⟨b1.grown ha.grown b1.size (fun k hk => by cases hk), Nat.le_refl _, ha.row, by rw [if_neg HX.out]⟩
      clear ha HA
      go_wp2
      go_meet
      exact ⟨a', 0 + 1, c', rfl, ⟨[root], rfl, H3.out⟩⟩
  case rest =>
    rename World => W3
    obtain ⟨a3, m3, c3, rfl, H3⟩ := hcut
    obtain ⟨l0, hl0, h3⟩ := H3.out
    have HP0 : Hid (NdPre W W3 root W.heap.size l0 (.slice a3 m3 c3) ∧ l0.length = m3 ∧ l0.length ≤ 1) := ⟨h3, hl0, by rw [h3.ls]; split <;> simp⟩
    replace c1 := cell_grown c1 h3.bel
    obtain ⟨o, hrun, hit⟩ := (HW.out.2.below h3.bel).start (P := Tryz.prog) Tryz.underlying41
    obtain ⟨r, hr⟩ : ∃ r, r = W3.heap.size := ⟨_, rfl⟩
    obtain ⟨W4, hW4⟩ : ∃ W4, W4 = W3.alloc o := ⟨_, rfl⟩
    rw [← hW4, ← hr] at hrun hit
    have H4 : Hid (NdSt W W4 W.heap.size g r up (fun _ => true) l0 [] l0 (.slice a3 m3 c3)) := by
      refine ⟨hit, by rw [hW4]; exact h3.bel.alloc h3.bel.size _, ⟨by rw [hr]; exact h3.bel.size, Nat.le_refl _⟩, ?_, fun x hx => ?_, List.nodup_nil, fun k hk => (by cases hk), by simp⟩
      · rw [hW4]
        refine row_at h3.row (fun z hz => Below.heap_alloc _ _ _ ((World.ownsRow.lt h3.row z hz).2))
      · have := (World.ownsRow.lt h3.row x hx).2
        omega
    clear c0 hit hr hl0 h3 H3 hW4
    go_wp2
    clear hrun c1
    go_loopg [3] up.length (fun kx v wr => ∃ (a : Option Addr) (m c : Nat), v = .slice a m c ∧ Hid (∃ D L, kx = up.length - D.length ∧ L.length = m ∧ NdSt W wr W.heap.size g r up (fun _ => true) l0 D L (.slice a m c)))
    case atStart => exact ⟨a3, m3, c3, rfl, ⟨[], l0, rfl, HP0.out.2.1, H4.out⟩⟩
    case round =>
      obtain ⟨va, vn, vc, rfl, HB⟩ := hrel
      clear H4
      obtain ⟨D, L, hkx, hLn, hd⟩ := HB.out
      have HKX : Hid (_ = up.length - D.length ∧ L.length = vn) := ⟨hkx, hLn⟩
      have HD : Hid (NdSt W wr W.heap.size g r up (fun _ => true) l0 D L (.slice va vn vc)) := hd
      clear HB hkx hLn hd
      have HLe : Hid (vn ≤ 100001) := by have := HD.out.le; have := HI.out.2.2.1; have := HKX.out.2; have := HP0.out.2.2; show vn ≤ 100001; omega
      rcases HD.out.next with ⟨hall, hrun⟩ | ⟨k, x, w5, hlk, hrun, hent, hmid⟩
      · have HAL : Hid (∀ k ∈ up.map (·.1), k ∈ D) := hall
        have HSO := sort_own W.heap.size wr va vn vc L (by have := HD.out.row; rw [HKX.out.2] at this; exact this) (by have := HLe.out; omega)
        have HS : Hid _ := HSO
        clear hall HSO
        go_wp2_with fail
        refine Calls.mono HS.out ?_
        clear HS
        rintro e w9 ⟨rfl, l', hperm, hsort, hrow, hgr⟩
        have hLl : L = l0 ++ D := by have := HD.out.ls; rw [List.filter_eq_self.2 (fun _ _ => rfl)] at this; exact this
        have hmem : ∀ x, x ∈ l' ↔ (⟨root, up⟩ : Tr).inT x := fun x => by
          rw [hperm.mem_iff, hLl, List.mem_append, HP0.out.1.ls]
          unfold Tr.inT
          simp only
          have hD : x ∈ D ↔ ∃ v, lookI up x = some v := by
            constructor
            · intro z
              obtain ⟨p, hp, rfl⟩ := List.mem_map.1 (HD.out.dm x z)
              exact ⟨p.2, lookI_mem HI.out.2.1 hp⟩
            · rintro ⟨v, z⟩
              exact HAL.out x (List.mem_map.2 ⟨_, lookI_some z, rfl⟩)
          rw [hD]
          by_cases e : root = -1
          · simp [e]
          · simp [e]
        have hi6 : ∀ x ∈ l', i64 x := fun x hx => by
          rcases (hmem x).1 hx with ⟨_, e⟩ | ⟨v, z⟩
          · rw [e]; exact HI.out.2.2.2
          · exact HI.out.1 x (List.mem_map.2 ⟨_, lookI_some z, rfl⟩)
        have hbel : Below w.heap.size w w9 := by
          have b1 := HW.out.1.trans (HD.out.bel.mono HW.out.1.size)
          refine b1.grown hgr b1.size (fun k hk => ?_)
          have := (World.ownsRow.lt hrow k hk).1
          have := HW.out.1.size
          omega
        have HF : Hid (l'.Pairwise (· ≤ ·) ∧ (∀ x, x ∈ l' ↔ (⟨root, up⟩ : Tr).inT x) ∧ Below w.heap.size w w9) := ⟨hsort, hmem, hbel⟩
        have HCP := compact_own W.heap.size w9 va vn vc l' hrow hi6 (by have := HLe.out; omega)
        have HC : Hid _ := HCP
        clear hperm hsort hrow hgr hLl hmem hi6 hbel HCP
        go_wp2_with fail
        refine Calls.mono HC.out ?_
        clear HC
        rintro e w10 ⟨m, rfl, hin, hz, hmc, hcm, hb⟩
        obtain ⟨r1, r2⟩ := compact_rise _ l' rfl HF.out.1
        have hml : m = (Lib.compact l').length := hin.1.symm
        have HG : Hid (SlI w10 (.slice va m vc) (Lib.compact l') ∧ (Lib.compact l').Pairwise (· < ·) ∧ (∀ x, x ∈ Lib.compact l' ↔ (⟨root, up⟩ : Tr).inT x) ∧ Below w.heap.size w w10) := by
          subst hml
          exact ⟨⟨va, vc, rfl, hin, hz, hmc, hcm⟩, r1, fun x => (r2 x).trans (HF.out.2.1 x), HF.out.2.2.trans (hb.mono HW.out.1.size)⟩
        clear hin hz hmc hcm hb r1 r2 hml
        go_wp2
        go_ret
        exact ⟨_, _, rfl, HG.out.1, HG.out.2.1, HG.out.2.2.1, HG.out.2.2.2⟩
      · have HM : Hid (NdMid W wr w5 W.heap.size g r up (fun _ => true) l0 D L (.slice va vn vc) k) := hmid
        clear hmid hlk
        have HA : Hid ((w5.alloc (.cells #[.int .i64 k] 3)).ownsRow W.heap.size 3 1 (.slice va vn vc) vn (L.map cellI)) := by
          have := HM.out.row
          rw [HKX.out.2] at this
          exact row_at this (fun z hz => Below.heap_alloc _ _ _ ((World.ownsRow.lt this z hz).2))
        have HSz : Hid (W.heap.size ≤ w5.heap.size) := HM.out.bel.size
        go_wp2_with (at_builtin; go_loud (refine wpList_own_append _ rfl _ _ 24 24 rfl W.heap.size 3 i0 _ 8 Tryz.underlying24 hif hz0 hz1 hz2 rfl _ _ _ rfl HA.out _ 1 [cellI k] rfl (src_oneT w5 k) ?c3 ?c4 ?c5 ?_))
        case c3 => unfold maxLen; have := HLe.out; omega
        case c4 => have := HLe.out; omega
        case c5 => have := HSz.out; simp; omega
        intro v' w6 ha
        obtain ⟨a', c', rfl⟩ := ha.shape
        have H6 : Hid (NdSt W w6 W.heap.size g r up (fun _ => true) l0 (D ++ [k]) (L ++ [k]) (.slice a' (vn + 1) c')) := by
          have := HKX.out.2
          subst this
          exact HD.out.take HM.out rfl _ ha
        clear ha HA HSz
        go_wp2
        go_roundg (up.length - (D.length + 1))
        case measure => have := HD.out.lt HM.out.mem HM.out.out; have := HKX.out.1; omega
        case rel => exact ⟨a', vn + 1, c', rfl, ⟨D ++ [k], L ++ [k], by simp, by simp [HKX.out.2], H6.out⟩⟩
end Go.Proofs.YtmajlldfiiokoaaGreatDoor

/- Trees over the base ring: what the laws ask. -/
namespace Go.Proofs.YtmajlldfiiokoaaGreatDoor
open Go.ChangeShapes Go.WideShapes Go.ChangeAt Go.RowKit Go.Deep
set_option linter.unusedVariables false

theorem xor_plc (a b : Int) : Plc (bits .xor .u64 a b) := by
  show Plc (IntKind.u64.wrap _)
  rw [IntKind.wrap_u64]
  unfold Plc; omega
theorem gkey_plc (s : ByteArray) : Plc (gkeyT s) := xor_plc _ _
theorem sort_rise {l : List Int} (h : l.Nodup) : ∃ L : List Int, L.Pairwise (· < ·) ∧ ∀ x, x ∈ L ↔ x ∈ l := by
  have hp : (l.mergeSort fun x y => decide (x ≤ y)).Perm l := List.mergeSort_perm l _
  refine ⟨_, ?_, fun x => hp.mem_iff⟩
  have hn : (l.mergeSort fun x y => decide (x ≤ y)).Nodup := hp.nodup_iff.2 h
  refine ((le_sorted l).and hn).imp (fun {a b} z => ?_)
  have := z.1; have := z.2
  omega
theorem TrOk.nodes_ex {nx : Int → Option Int} {t : Tr} (h : TrOk nx t) : ∃ L : List Int, L.Pairwise (· < ·) ∧ ∀ x, x ∈ L ↔ t.inT x := by
  have hk : ∀ x, x ∈ t.up.map (·.1) ↔ ∃ v, lookI t.up x = some v := fun x => by
    constructor
    · intro hx
      obtain ⟨p, hp, rfl⟩ := List.mem_map.1 hx
      exact ⟨p.2, lookI_mem h.nd hp⟩
    · rintro ⟨v, hv⟩
      exact List.mem_map.2 ⟨_, lookI_some hv, rfl⟩
  by_cases hr : t.root = -1
  · obtain ⟨L, h1, h2⟩ := sort_rise h.nd
    exact ⟨L, h1, fun x => by rw [h2, hk]; exact ⟨.inr, fun z => z.elim (fun q => absurd hr q.1) id⟩⟩
  · have hn : (t.root :: t.up.map (·.1)).Nodup := List.nodup_cons.2 ⟨fun hm => by
      obtain ⟨v, hv⟩ := (hk _).1 hm
      have h1 := h.st _ _ hv
      rw [h.rt hr] at h1
      exact h1.2 (Option.some.inj h1.1).symm, h.nd⟩
    obtain ⟨L, h1, h2⟩ := sort_rise hn
    refine ⟨L, h1, fun x => ?_⟩
    rw [h2, List.mem_cons, hk]
    exact ⟨fun z => z.elim (fun e => .inl ⟨hr, e⟩) .inr, fun z => z.elim (fun e => .inl e.2) .inr⟩
theorem TrOk.childs_ex {nx : Int → Option Int} {t : Tr} (h : TrOk nx t) (n : Int) : ∃ L : List Int, L.Pairwise (· < ·) ∧ ∀ x, x ∈ L ↔ lookI t.up x = some n := by
  have hn : ((t.up.map (·.1)).filter fun k => decide (lookI t.up k = some n)).Nodup := h.nd.filter _
  obtain ⟨L, h1, h2⟩ := sort_rise hn
  refine ⟨L, h1, fun x => ?_⟩
  rw [h2, List.mem_filter]
  constructor
  · rintro ⟨_, z⟩; simpa using z
  · intro z
    exact ⟨List.mem_map.2 ⟨_, lookI_some z, rfl⟩, by simpa using z⟩
theorem rise_eq : ∀ (s t : List Int), s.Pairwise (· < ·) → t.Pairwise (· < ·) → (∀ x, x ∈ s ↔ x ∈ t) → s = t
  | [], [], _, _, _ => rfl
  | [], b :: t, _, _, h => by have := (h b).2 (by simp); simp at this
  | a :: s, [], _, _, h => by have := (h a).1 (by simp); simp at this
  | a :: s, b :: t, hs, ht, h => by
    have hs1 := List.pairwise_cons.1 hs
    have ht1 := List.pairwise_cons.1 ht
    have hab : a = b := by
      have h1 := (h a).1 (by simp)
      have h2 := (h b).2 (by simp)
      rcases List.mem_cons.1 h1 with e | m
      · exact e
      · rcases List.mem_cons.1 h2 with e | m2
        · exact e.symm
        · have := ht1.1 a m; have := hs1.1 b m2; omega
    subst hab
    congr 1
    refine rise_eq s t hs1.2 ht1.2 (fun x => ?_)
    have hx := h x
    simp only [List.mem_cons] at hx
    constructor
    · intro m
      have := hs1.1 x m
      rcases hx.1 (.inr m) with e | m2
      · omega
      · exact m2
    · intro m
      have := ht1.1 x m
      rcases hx.2 (.inr m) with e | m2
      · omega
      · exact m2
/-- Rising lists, one within the other. -/
theorem rise_lenT {s t : List Int} (hs : s.Pairwise (· < ·)) (h : ∀ x, x ∈ s → x ∈ t) : s.length ≤ t.length :=
  nodup_le s t (hs.imp (fun {a b} z e => by omega)) h
theorem nodes_c {nx : Int → Option Int} {t : Tr} {g : Nat} {L : List Int} (hp : L.Pairwise (· < ·)) (hm : ∀ x, x ∈ L ↔ t.inT x) (w : World) (h : UpAt w g t.up) (hl : t.up.length ≤ 100000) (hi : ∀ k ∈ t.up.map (·.1), i64 k) (hr : i64 t.root) (hok : TrOk nx t) :
    Calls Tryz.prog 19 #[.agg #[.int .i64 t.root, .map (some g)]] w fun e w' => (∃ a c, e = .returned (.slice a L.length c) ∧ InIn w' a L.length L) ∧ Below w.heap.size w w' := by
  refine (nodes_t nx t g w h hl hi hr hok).mono ?_
  rintro e w' ⟨v, l, rfl, hs, h1, h2, hb⟩
  have e : l = L := rise_eq _ _ h1 hp (fun x => (h2 x).trans (hm x).symm)
  subst e
  obtain ⟨a, c, rfl, hin, _⟩ := hs.ex
  exact ⟨⟨a, c, rfl, hin⟩, hb⟩
theorem childs_c {t : Tr} {g : Nat} {n : Int} {L : List Int} (hp : L.Pairwise (· < ·)) (hm : ∀ x, x ∈ L ↔ lookI t.up x = some n) (w : World) (h : UpAt w g t.up) (hl : t.up.length ≤ 100000) (hi : ∀ k ∈ t.up.map (·.1), i64 k) :
    Calls Tryz.prog 21 #[.agg #[.int .i64 t.root, .map (some g)], .int .i64 n] w fun e w' => (∃ a c, e = .returned (.slice a L.length c) ∧ InIn w' a L.length L) ∧ Below w.heap.size w w' := by
  refine (children_t t g n w h hl hi).mono ?_
  rintro e w' ⟨v, l, rfl, hs, h1, h2, hb⟩
  have e : l = L := rise_eq _ _ h1 hp (fun x => (h2 x).trans (hm x).symm)
  subst e
  obtain ⟨a, c, rfl, hin, _⟩ := hs.ex
  exact ⟨⟨a, c, rfl, hin⟩, hb⟩
/-- How great a tree over a ring is. -/
structure TrFew (R : Rg) (t : Tr) : Prop where
  len : t.up.length ≤ 100000
  key : ∀ k ∈ t.up.map (·.1), i64 k
  rot : i64 t.root
theorem few_ring {R : Rg} (hi : Inv R) {G : Int → List Int} {x : Int} {t : Tr} (h : TrOk (nxR R G x) t) : TrFew R t := by
  have hk : ∀ k ∈ t.up.map (·.1), 0 ≤ k ∧ k < 32 := fun k hk => by
    obtain ⟨p, hp, rfl⟩ := List.mem_map.1 hk
    have h1 := (h.st _ _ (lookI_mem h.nd (k := p.1) (v := p.2) hp)).1
    unfold nxR at h1
    split at h1
    · rename_i hl; exact hi.rng _ hl
    · cases h1
  refine ⟨?_, fun k hx => by have := hk k hx; unfold i64; omega, ?_⟩
  · have := nodup_le (t.up.map (·.1)) ((List.range 32).map fun (k : Nat) => (k : Int)) h.nd (fun y hy => by
      have := hk y hy
      exact List.mem_map.2 ⟨y.toNat, by simp; omega, by omega⟩)
    simp at this
    omega
  · by_cases e : t.root = -1
    · rw [e]; unfold i64; omega
    · have h1 := h.rt e
      unfold nxR at h1
      split at h1
      · rename_i hl; have := hi.rng _ hl; unfold i64; omega
      · cases h1
set_option maxHeartbeats 1000000 in
theorem among_any (a : Option Addr) (n c : Nat) (l : List Int) (x : Int) (w : World) (hin : InIn w a n l) :
    Calls Tryz.prog 22 #[.slice a n c, .int .i64 x] w fun e w' => e = .returned (.bool (decide (x ∈ l))) ∧ w' = w := by
  have H : Hid (InIn w a n l ∧ l.length = n) := ⟨hin, hin.1⟩
  have hn := hin.2.1
  clear hin
  go_enter Tryz.func22, Tryz.ntmps22
  go_wp2
  go_loopg [9] n (fun kx s wr => ∃ j : Nat, s = .int .i64 j ∧ j ≤ n ∧ kx = n - j ∧ wr = w ∧ Hid (∀ i, i < j → l.getD i 0 ≠ x))
  case atStart => exact ⟨0, rfl, Nat.zero_le _, rfl, rfl, (fun i hi => absurd hi (Nat.not_lt_zero _) : ∀ i, i < 0 → l.getD i 0 ≠ x)⟩
  case round =>
    obtain ⟨j, rfl, hj, rfl, hwr, HI⟩ := hrel
    subst wr
    by_cases hlt : j < n
    · obtain ⟨mb, mo, hmb, hml, _, hmc⟩ := H.out.1.one (v := Value.int .i64) (fun _ => rfl) (i := j) hlt
      subst hmb
      have hmem : l.getD j 0 ∈ l := by rw [List.getD_eq_getElem?_getD, List.getElem?_eq_getElem (by have := H.out.2; omega)]; simp
      obtain ⟨y, hy⟩ : ∃ y, y = l.getD j 0 := ⟨_, rfl⟩
      rw [← hy] at hmc hmem
      have HY : Hid (y = l.getD j 0 ∧ y ∈ l) := ⟨hy, hmem⟩
      clear hy hmem
      by_cases e : y = x
      · have e1 : (y == x) = true := by simpa using e
        have HE : Hid (decide (x ∈ l) = true) := by show _ = true; rw [← e]; simpa using HY.out.2
        clear e
        go_wp2
        go_ret
        exact ⟨ret_b HE.out.symm, rfl⟩
      · have e1 : (y == x) = false := by simpa using e
        have HI2 : Hid (∀ i, i < j + 1 → l.getD i 0 ≠ x) := fun i hi => by
          by_cases q : i = j
          · rw [q, ← HY.out.1]; exact e
          · exact HI.out i (by omega)
        clear e
        go_wp2
        go_roundg (n - (j + 1))
        case measure => omega
        case rel => exact ⟨j + 1, by go_num, by omega, rfl, rfl, HI2.out⟩
    · have HE : Hid (decide (x ∈ l) = false) := by
        show _ = false
        simp only [decide_eq_false_iff_not]
        intro hx
        obtain ⟨i, hi, e⟩ := List.mem_iff_getElem.1 hx
        exact HI.out i (by have := H.out.2; omega) (by rw [List.getD_eq_getElem?_getD, List.getElem?_eq_getElem hi]; exact e)
      go_wp2
      go_ret
      exact ⟨ret_b HE.out.symm, rfl⟩
end Go.Proofs.YtmajlldfiiokoaaGreatDoor

/- Two rows of ints of one's own: one grows behind, the other in front. -/
namespace Go.Proofs.YtmajlldfiiokoaaGreatDoor
open Go.ChangeShapes Go.WideShapes Go.ChangeAt Go.RowKit Go.Deep
set_option linter.unusedVariables false

/-- Two rows side by side. -/
structure Tw (W wr : World) (v1 v2 : Value) (l1 l2 : List Int) : Prop where
  r1 : wr.ownsRow W.heap.size 3 1 v1 l1.length (l1.map cellI)
  r2 : wr.ownsRow W.heap.size 3 1 v2 l2.length (l2.map cellI)
  ne : ∀ x, v1.ownBlock = some x → v2.ownBlock ≠ some x
  bel : Below W.heap.size W wr
theorem Tw.below {W wr w' : World} {v1 v2 : Value} {l1 l2 : List Int} (h : Tw W wr v1 v2 l1 l2) (hb : Below wr.heap.size wr w') : Tw W w' v1 v2 l1 l2 :=
  ⟨row_at h.r1 (fun z hz => hb.block _ ((World.ownsRow.lt h.r1 z hz).2)), row_at h.r2 (fun z hz => hb.block _ ((World.ownsRow.lt h.r2 z hz).2)), h.ne, h.bel.trans (hb.mono h.bel.size)⟩
theorem empty_row {W wr : World} (hb : W.heap.size ≤ wr.heap.size) : (wr.alloc (.cells #[] 3)).ownsRow W.heap.size 3 1 (.slice (some ⟨wr.heap.size, 0, none⟩) 0 0) 0 ([].map cellI) :=
  ⟨rfl, .inr ⟨wr.heap.size, 0, #[], rfl, hb, heap_alloc_new wr _, Nat.le_refl _, by unfold maxLen; omega, rfl, rfl⟩⟩
theorem Tw.start (W : World) : Tw W ((W.alloc (.cells #[] 3)).alloc (.cells #[] 3)) (.slice (some ⟨W.heap.size, 0, none⟩) 0 0) (.slice (some ⟨W.heap.size + 1, 0, none⟩) 0 0) [] [] := by
  have e := empty_row (W := W) (wr := W) (Nat.le_refl _)
  have e2 := empty_row (W := W) (wr := W.alloc (.cells #[] 3)) (by simp)
  rw [show (W.alloc (.cells #[] 3)).heap.size = W.heap.size + 1 by simp] at e2
  refine ⟨row_at e (fun z hz => Below.heap_alloc _ _ _ ((World.ownsRow.lt e z hz).2)), e2, fun x h1 h2 => ?_, (below_one _ _).trans ((below_one _ _).mono (by simp))⟩
  simp [Value.ownBlock] at h1 h2
  omega
/-- One more behind the first. -/
theorem Tw.app {W wr w6 : World} {v1 v2 v' : Value} {l1 l2 : List Int} {y : Int} (h : Tw W wr v1 v2 l1 l2) (o : Obj) (ha : Appended W.heap.size 3 (wr.alloc o) w6 v1 v' (l1.length + 1) (l1.map cellI ++ [cellI y])) : Tw W w6 v' v2 (l1 ++ [y]) l2 := by
  have h0 := h.below (below_one wr o)
  have hg := ha.grown
  refine ⟨by rw [List.map_append, List.length_append]; exact ha.row, row_at h0.r2 (fun z hz => hg.block z ((World.ownsRow.lt h0.r2 z hz).2) (fun e => h.ne z e.symm hz)), fun x hx hx2 => ?_, h0.bel.grown hg h0.bel.size (fun k hk => (World.ownsRow.lt h0.r1 k hk).1)⟩
  rcases ha.new x hx with e | e
  · exact h.ne x e hx2
  · have := (World.ownsRow.lt h0.r2 x hx2).2
    omega
/-- A new second row: one, and the elder second row behind it. -/
theorem Tw.front {W wr w6 : World} {v1 v2 v' : Value} {l1 l2 : List Int} {y : Int} (h : Tw W wr v1 v2 l1 l2) (ha : Appended W.heap.size 3 (wr.alloc (.cells #[.int .i64 y] 3)) w6 (.slice (some ⟨wr.heap.size, 0, none⟩) 1 1) v' (1 + l2.length) ([cellI y] ++ l2.map cellI)) : Tw W w6 v1 v' l1 (y :: l2) := by
  have h0 := h.below (below_one wr (.cells #[.int .i64 y] 3))
  have hg := ha.grown
  have hlt : ∀ x, v1.ownBlock = some x → x < wr.heap.size := fun x hx => (World.ownsRow.lt h.r1 x hx).2
  refine ⟨row_at h0.r1 (fun z hz => hg.block z ((World.ownsRow.lt h0.r1 z hz).2) (fun e => ?_)), ?_, fun x hx hx2 => ?_, h0.bel.grown hg h0.bel.size (fun k hk => ?_)⟩
  · have := hlt z hz
    simp [Value.ownBlock] at e
    omega
  · have := ha.row
    rw [List.map_cons, List.length_cons, Nat.add_comm l2.length 1]
    exact this
  · have := hlt x hx
    rcases ha.new x hx2 with e | e
    · simp [Value.ownBlock] at e; omega
    · simp at e; omega
  · simp [Value.ownBlock] at hk
    have := h.bel.size
    omega
theorem one_row {W wr : World} (y : Int) (hb : W.heap.size ≤ wr.heap.size) : (wr.alloc (.cells #[.int .i64 y] 3)).ownsRow W.heap.size 3 1 (.slice (some ⟨wr.heap.size, 0, none⟩) 1 1) 1 [cellI y] :=
  ⟨rfl, .inr ⟨wr.heap.size, 1, #[.int .i64 y], rfl, hb, heap_alloc_new wr _, Nat.le_refl _, by unfold maxLen; omega, rfl, rfl⟩⟩
theorem Tw.shape {W wr : World} {v1 v2 : Value} {l1 l2 : List Int} (h : Tw W wr v1 v2 l1 l2) : (∃ a c, v1 = .slice a l1.length c) ∧ ∃ a c, v2 = .slice a l2.length c := by
  refine ⟨?_, ?_⟩
  · rcases h.r1.2 with ⟨hv, h0⟩ | ⟨g, cap, cur, hv, _⟩
    · exact ⟨none, 0, by rw [hv, h0]⟩
    · exact ⟨_, _, hv⟩
  · rcases h.r2.2 with ⟨hv, h0⟩ | ⟨g, cap, cur, hv, _⟩
    · exact ⟨none, 0, by rw [hv, h0]⟩
    · exact ⟨_, _, hv⟩
/-- Fingers of a ring, anew; what stood stays. -/
theorem fnew_b (w wr : World) (r gp gk : Nat) (R : Rg) (h : Rn w wr r gp gk R) :
    Calls Tryz.prog 13 #[.pointer (some ⟨r, 0, none⟩)] wr fun e w' => ∃ f gm, e = .returned (.pointer (some ⟨f, 0, none⟩)) ∧ Rt w w' r gp gk f gm R (fun _ => []) ∧ Below wr.heap.size wr w' := by
  have hz : ∀ k, LsOk ((wr.alloc (.map #[] 0)).alloc (.cells #[.pointer (some ⟨r, 0, none⟩), .map (some wr.heap.size)] 107)) [] (look [] k) := fun k => rfl
  have hb : Below wr.heap.size wr ((wr.alloc (.map #[] 0)).alloc (.cells #[.pointer (some ⟨r, 0, none⟩), .map (some wr.heap.size)] 107)) := (below_one _ _).trans ((below_one _ _).mono (by simp))
  have hl := h.ring.lt
  have HR : Hid (Rt w ((wr.alloc (.map #[] 0)).alloc (.cells #[.pointer (some ⟨r, 0, none⟩), .map (some wr.heap.size)] 107)) r gp gk (wr.heap.size + 1) wr.heap.size R (fun _ => [])) := by
    refine ⟨h.below hb, ⟨?_, [], ?_, hz⟩, by omega, by omega, h.bel.size⟩
    · simpa using heap_alloc_new (wr.alloc (.map #[] 0)) (.cells #[.pointer (some ⟨r, 0, none⟩), .map (some wr.heap.size)] 107)
    · exact (MpAt.made wr).of_block (Below.heap_alloc _ _ _ (by simp))
  have HB : Hid (Below wr.heap.size wr ((wr.alloc (.map #[] 0)).alloc (.cells #[.pointer (some ⟨r, 0, none⟩), .map (some wr.heap.size)] 107))) := hb
  clear hz hb hl h
  have hmm := @run_makeMap Tryz.prog
  go_enter Tryz.func13, Tryz.ntmps13
  go_wp2
  go_ret
  exact ⟨wr.heap.size + 1, wr.heap.size, by simp, HR.out, HB.out⟩
end Go.Proofs.YtmajlldfiiokoaaGreatDoor
