/- What stays of a ring whatever the calls: the base, who went; how many live. -/
import Derived.Test.YtmajlldfiiokoaaGreatDoorChAct
import Derived.Test.YtmajlldfiiokoaaGreatDoorRingMath
set_option linter.unnecessarySimpa false
namespace Go.Proofs.YtmajlldfiiokoaaGreatDoor
open Go.ChangeShapes Go.WideShapes Go.ChangeAt Go.RowKit Go.Deep
set_option linter.unusedVariables false

/-- Those that live have an address and a place, and the base lives. -/
structure Sane (R : Rg) : Prop where
  rng : ∀ n, R.lives n = true → n = -1 ∨ (0 ≤ n ∧ n < 32)
  pl : ∀ n, 0 ≤ n → R.lives n = true → (R.pl n).isSome = true
  base : ∀ n, 0 ≤ n → n < 4 → R.lives n = true

theorem live_other {R R' : Rg} {n : Int} (h : ∀ x, x ≠ n → R'.lives x = R.lives x) (k : Nat) (hk : (k : Int) ≤ n) : R'.liveTo k = R.liveTo k := by
  induction k with
  | zero => rfl
  | succ k ih =>
    unfold Rg.liveTo
    rw [h k (by omega), ih (by omega)]
theorem live_up {R R' : Rg} {n : Int} (h : ∀ x, x ≠ n → R'.lives x = R.lives x) (h0 : R.lives n = false) (h1 : R'.lives n = true) (hn : 0 ≤ n) (k : Nat) (hk : n < k) : (R'.liveTo k).length = (R.liveTo k).length + 1 := by
  induction k with
  | zero => omega
  | succ k ih =>
    by_cases e : n = k
    · subst e
      unfold Rg.liveTo
      rw [h0, h1, live_other h k (by omega)]
      simp
    · have := ih (by omega)
      unfold Rg.liveTo
      rw [h k (fun q => e q.symm)]
      split
      · simp [this]
      · exact this

theorem joinC_zero {R : Rg} {n id via : Int} (h : R.joinC n id via = 0) : 0 ≤ n ∧ n < 32 ∧ R.pl n = none := by
  unfold Rg.joinC at h
  by_cases q : n < 0 ∨ 32 ≤ n
  · rw [if_pos q] at h; cases h
  · rw [if_neg q] at h
    refine ⟨by omega, by omega, ?_⟩
    cases hp : R.pl n with
    | none => rfl
    | some x => rw [hp] at h; simp at h
theorem failC_zero {R : Rg} {n : Int} (h : R.failC n = 0) : R.lives n = true ∧ 4 ≤ n := by
  unfold Rg.failC at h
  cases hl : R.lives n
  · rw [hl] at h; simp at h
  · rw [hl] at h
    by_cases q : n < 4 ∨ R.needed n = true
    · simp [q] at h
    · exact ⟨rfl, by omega⟩
theorem lives_delK (R : Rg) (n x : Int) : (R.delK n).lives x = if x = n then false else R.lives x := by
  simp only [Rg.lives, Rg.delK, upd]; split <;> simp
theorem lives_joined (R : Rg) (n id y x : Int) : (R.joined n id y).lives x = if x = n then true else R.lives x := by
  unfold Rg.joined; rw [lives_setK]; rfl
theorem pl_joined (R : Rg) (n id y x : Int) : (R.joined n id y).pl x = if x = n then some id else R.pl x := rfl

theorem Sane.join {R : Rg} (h : Sane R) (n id via : Int) : Sane (R.join n id via) ∧ ((R.join n id via).live.length = R.live.length + if R.joinC n id via = 0 then 1 else 0) ∧ (∀ x, (R.pl x).isSome = true → ((R.join n id via).pl x).isSome = true ∧ ((R.join n id via).lives x = R.lives x)) := by
  unfold Rg.join
  by_cases q : R.joinC n id via = 0
  · rw [if_pos q, if_pos q]
    obtain ⟨h0, h1, h2⟩ := joinC_zero q
    have hln : R.lives n = false := by
      cases hl : R.lives n
      · rfl
      · have := h.pl n h0 hl; rw [h2] at this; cases this
    refine ⟨⟨fun x hx => ?_, fun x hx0 hx => ?_, fun x hx0 hx1 => ?_⟩, ?_, fun x hx => ⟨?_, ?_⟩⟩
    · rw [lives_joined] at hx
      split at hx
      · rename_i e; exact .inr (by omega)
      · exact h.rng x hx
    · rw [lives_joined] at hx
      rw [pl_joined]
      split
      · rfl
      · rename_i e; rw [if_neg e] at hx; exact h.pl x hx0 hx
    · rw [lives_joined]
      split
      · rfl
      · exact h.base x hx0 hx1
    · exact live_up (fun x hx => by rw [lives_joined, if_neg hx]) hln (by rw [lives_joined, if_pos rfl]) h0 32 (by omega)
    · rw [pl_joined]; split
      · rfl
      · exact hx
    · rw [lives_joined]; split
      · rename_i e; rw [e, h2] at hx; cases hx
      · rfl
  · rw [if_neg q, if_neg q]
    exact ⟨h, rfl, fun x hx => ⟨hx, rfl⟩⟩
theorem Sane.fail {R : Rg} (h : Sane R) (n : Int) : Sane (R.fail n) ∧ ((R.fail n).live.length + (if R.failC n = 0 then 1 else 0) = R.live.length) ∧ (R.fail n).pl = R.pl ∧ (∀ x, R.lives x = false → (R.fail n).lives x = false) ∧ (R.failC n = 0 → (R.fail n).lives n = false ∧ 4 ≤ n ∧ n < 32 ∧ (R.pl n).isSome = true) := by
  unfold Rg.fail
  by_cases q : R.failC n = 0
  · rw [if_pos q, if_pos q]
    obtain ⟨h0, h1⟩ := failC_zero q
    have hr := h.rng n h0
    refine ⟨⟨fun x hx => ?_, fun x hx0 hx => ?_, fun x hx0 hx1 => ?_⟩, ?_, rfl, fun x hx => ?_, fun _ => ⟨by rw [lives_delK, if_pos rfl], h1, by omega, h.pl n (by omega) h0⟩⟩
    · rw [lives_delK] at hx; split at hx
      · cases hx
      · exact h.rng x hx
    · rw [lives_delK] at hx; split at hx
      · cases hx
      · exact h.pl x hx0 hx
    · rw [lives_delK, if_neg (by omega)]; exact h.base x hx0 hx1
    · exact (live_up (R := R.delK n) (R' := R) (n := n) (fun x hx => by rw [lives_delK, if_neg hx]) (by rw [lives_delK, if_pos rfl]) h0 (by omega) 32 (by omega)).symm
    · rw [lives_delK]; split
      · rfl
      · exact hx
  · rw [if_neg q, if_neg q]
    exact ⟨h, rfl, rfl, fun x hx => hx, fun e => absurd e q⟩
theorem stab_range {R : Rg} (h : Sane R) (n : Int) (x : Int) (hx : (R.stab n).lives x = true) : x = -1 ∨ R.lives x = true := by
  unfold Rg.stab at hx
  split at hx
  · rename_i hl
    unfold Rg.tell Rg.learn at hx
    rw [lives_setK, lives_setK] at hx
    split at hx
    · rename_i e
      rcases next_lives R n with q | q
      · exact .inl (e.trans q)
      · exact .inr (by rw [e]; exact q)
    · split at hx
      · rename_i e; exact .inr (by rw [e]; exact hl)
      · exact .inr hx
  · exact .inr hx
theorem Sane.stab {R : Rg} (h : Sane R) (n : Int) : Sane (R.stab n) := by
  have ha := stab_alike R n
  refine ⟨fun x hx => ?_, fun x hx0 hx => ?_, fun x hx0 hx1 => ?_⟩
  · rcases stab_range h n x hx with e | e
    · exact .inl e
    · exact h.rng x e
  · rw [ha.2]; rw [ha.1 x hx0] at hx; exact h.pl x hx0 hx
  · rw [ha.1 x hx0]; exact h.base x hx0 hx1
theorem Sane.round {R : Rg} (h : Sane R) : Sane R.round := by
  unfold Rg.round
  generalize R.live = l
  induction l generalizing R with
  | nil => exact h
  | cons a l ih => exact ih (h.stab a)
theorem newTo_pl (l C : List Int) (k : Nat) (n : Int) : (newTo l C k).lives n = true → ((newTo l C k).pl n).isSome = true := by
  induction k with
  | zero => intro h; cases h
  | succ k ih =>
    rw [newTo_succ, lives_setK]
    intro h
    simp only [Rg.setK, Rg.setP, upd]
    split
    · rfl
    · rename_i e
      rw [if_neg e] at h
      exact ih h
theorem cl_join (R : Rg) (n id via : Int) : (R.join n id via).cl = R.cl := by unfold Rg.join; split <;> rfl
theorem cl_fail (R : Rg) (n : Int) : (R.fail n).cl = R.cl := by unfold Rg.fail; split <;> rfl
theorem cl_stab (R : Rg) (n : Int) : (R.stab n).cl = R.cl := by unfold Rg.stab; split <;> rfl
theorem cl_round (R : Rg) : R.round.cl = R.cl := by
  unfold Rg.round
  generalize R.live = l
  induction l generalizing R with
  | nil => rfl
  | cons a l ih => exact (ih (R.stab a)).trans (cl_stab R a)
end Go.Proofs.YtmajlldfiiokoaaGreatDoor

/- Arcs of the circle on which no base place lies; ranks by a distance. No program in sight. -/
namespace Go.Proofs.YtmajlldfiiokoaaGreatDoor
set_option linter.unusedVariables false

/-- A place. -/
def Plc (x : Int) : Prop := 0 ≤ x ∧ x ≤ 18446744073709551615
theorem dist_tri (a b c : Int) : dist a c = dist a b + dist b c ∨ dist a c = dist a b + dist b c - 18446744073709551616 := by unfold dist; omega
theorem dist_zero {a b : Int} (ha : Plc a) (hb : Plc b) : dist a b = 0 ↔ a = b := by
  unfold Plc at *
  constructor
  · intro h; unfold dist at h; omega
  · intro h; subst h; exact dist_self a
theorem dist_inj {a b c : Int} (hb : Plc b) (hc : Plc c) (h : dist a b = dist a c) : b = c := by unfold Plc at *; unfold dist at h; omega
theorem dist_injR {a b c : Int} (ha : Plc a) (hb : Plc b) (h : dist a c = dist b c) : a = b := by unfold Plc at *; unfold dist at h; omega
theorem within_iff {x a b : Int} (hx : Plc x) (ha : Plc a) (hb : Plc b) : withinB x a b = true ↔ dist a x ≠ 0 ∧ (dist a b = 0 ∨ dist a x < dist a b) := by
  have e1 := dist_zero ha hx
  have e2 := dist_zero ha hb
  simp only [withinB, Bool.and_eq_true, bne_iff_ne, Bool.or_eq_true, beq_iff_eq, decide_eq_true_eq, ne_eq, e1, e2]
  constructor
  · rintro ⟨h1, h2⟩; exact ⟨fun e => h1 e.symm, h2⟩
  · rintro ⟨h1, h2⟩; exact ⟨fun e => h1 e.symm, h2⟩
theorem within_not {x a b : Int} (hx : Plc x) (ha : Plc a) (hb : Plc b) : withinB x a b = false ↔ dist a x = 0 ∨ (dist a b ≠ 0 ∧ dist a b ≤ dist a x) := by
  have h := within_iff hx ha hb
  cases hw : withinB x a b
  · rw [hw] at h
    simp only [true_iff]
    have h2 : ¬ (dist a x ≠ 0 ∧ (dist a b = 0 ∨ dist a x < dist a b)) := fun q => by have := h.2 q; cases this
    omega
  · rw [hw] at h
    have h2 := h.1 rfl
    constructor
    · intro e; cases e
    · intro e; omega

/-- No base place lies between. -/
def NS (id : Int → Int) (a b : Int) : Prop := ∀ i, 0 ≤ i → i < 4 → withinB (id i) a b = false

section
variable {id : Int → Int} (hid : ∀ i, Plc (id i))
include hid
theorem ns_trans {a m b : Int} (ha : Plc a) (hm : Plc m) (hb : Plc b) (h1 : NS id a m) (h2 : NS id m b) (hne : ∀ i, 0 ≤ i → i < 4 → id i ≠ m) : NS id a b := by
  intro i h0 h4
  have q1 := (within_not (hid i) ha hm).1 (h1 i h0 h4)
  have q2 := (within_not (hid i) hm hb).1 (h2 i h0 h4)
  rw [within_not (hid i) ha hb]
  have z : dist m (id i) ≠ 0 := fun e => hne i h0 h4 ((dist_zero hm (hid i)).1 e).symm
  have t1 := dist_tri a m (id i)
  have t2 := dist_tri a m b
  have r1 := dist_rng a m
  have r2 := dist_rng m b
  have r3 := dist_rng a b
  have r4 := dist_rng m (id i)
  have r5 := dist_rng a (id i)
  omega
theorem ns_ne (h01 : id 0 ≠ id 1) {a b : Int} (ha : Plc a) (hb : Plc b) (h : NS id a b) : dist a b ≠ 0 := by
  intro e
  have q0 := (within_not (hid 0) ha hb).1 (h 0 (by omega) (by omega))
  have q1 := (within_not (hid 1) ha hb).1 (h 1 (by omega) (by omega))
  have z0 := (dist_zero ha (hid 0))
  have z1 := (dist_zero ha (hid 1))
  have e0 : a = id 0 := z0.1 (by omega)
  have e1 : a = id 1 := z1.1 (by omega)
  exact h01 (e0.symm.trans e1)
theorem ns_near {a b q : Int} (ha : Plc a) (hb : Plc b) (hq : Plc q) (h : NS id a b) (hw : withinB q a b = true) : NS id a q := by
  intro i h0 h4
  have q1 := (within_not (hid i) ha hb).1 (h i h0 h4)
  have q2 := (within_iff hq ha hb).1 hw
  rw [within_not (hid i) ha hq]
  omega
theorem ns_mid (h01 : id 0 ≠ id 1) {a h c : Int} (ha : Plc a) (hh : Plc h) (hc : Plc c) (hn : NS id a h) (hw : withinB c a h = true) : NS id c h := by
  intro i h0 h4
  have q1 := (within_not (hid i) ha hh).1 (hn i h0 h4)
  have q2 := (within_iff hc ha hh).1 hw
  have z := ns_ne hid h01 ha hh hn
  rw [within_not (hid i) hc hh]
  have t1 := dist_tri a c (id i)
  have t2 := dist_tri a c h
  have r1 := dist_rng a c
  have r2 := dist_rng c h
  have r3 := dist_rng a h
  have r4 := dist_rng c (id i)
  have r5 := dist_rng a (id i)
  omega
/-- Who goes on without skipping a base place comes nearer to each of them. -/
theorem toward (h01 : id 0 ≠ id 1) {c h : Int} (hc : Plc c) (hh : Plc h) (hn : NS id c h) {i : Int} (h0 : 0 ≤ i) (h4 : i < 4) (hne : c ≠ id i) : dist h (id i) < dist c (id i) ∧ dist c (id i) = dist c h + dist h (id i) := by
  have q1 := (within_not (hid i) hc hh).1 (hn i h0 h4)
  have z := ns_ne hid h01 hc hh hn
  have z1 : dist c (id i) ≠ 0 := fun e => hne ((dist_zero hc (hid i)).1 e)
  have t1 := dist_tri c h (id i)
  have r1 := dist_rng c h
  have r2 := dist_rng h (id i)
  have r3 := dist_rng c (id i)
  omega
end

/-- Between, told by the distances to a place further on. -/
theorem between_iff {y c s b : Int} (hy : Plc y) (hc : Plc c) (hs : Plc s) (hb : Plc b) (h : dist s b < dist c b) : withinB y c s = true ↔ dist s b < dist y b ∧ dist y b < dist c b := by
  rw [within_iff hy hc hs]
  have t1 := dist_tri c s b
  have t2 := dist_tri c y b
  have r1 := dist_rng c s
  have r2 := dist_rng s b
  have r3 := dist_rng c b
  have r4 := dist_rng c y
  have r5 := dist_rng y b
  constructor
  · rintro ⟨h1, h2⟩; omega
  · rintro ⟨h1, h2⟩
    constructor
    · intro e; omega
    · omega

/-- The lists' members that live go on without skipping a base place. -/
def Chain (lv : Int → Bool) (id : Int → Int) : Int → List Int → Prop
  | _, [] => True
  | a, x :: l => if lv x = true then NS id a (id x) ∧ Chain lv id (id x) l else Chain lv id a l

theorem chain_take {lv : Int → Bool} {id : Int → Int} {a : Int} {l : List Int} (h : Chain lv id a l) (k : Nat) : Chain lv id a (l.take k) := by
  induction l generalizing a k with
  | nil => simp; exact h
  | cons x l ih =>
    cases k with
    | zero => exact trivial
    | succ k =>
      simp only [List.take_succ_cons, Chain] at h ⊢
      split
      · rename_i e; rw [if_pos e] at h; exact ⟨h.1, ih h.2 k⟩
      · rename_i e; rw [if_neg e] at h; exact ih h k
theorem chain_congr {lv lv' : Int → Bool} {id id' : Int → Int} {a : Int} {l : List Int} (h : Chain lv id a l) (hb : ∀ i, 0 ≤ i → i < 4 → id' i = id i) (hm : ∀ x ∈ l, lv' x = lv x ∧ id' x = id x) : Chain lv' id' a l := by
  induction l generalizing a with
  | nil => exact trivial
  | cons x l ih =>
    have hx := hm x (by simp)
    have hn : ∀ a b, NS id a b → NS id' a b := fun a b q i h0 h4 => by rw [hb i h0 h4]; exact q i h0 h4
    simp only [Chain] at h ⊢
    rw [hx.1, hx.2]
    split
    · rename_i e; rw [if_pos e] at h; exact ⟨hn _ _ h.1, ih h.2 (fun y hy => hm y (by simp [hy]))⟩
    · rename_i e; rw [if_neg e] at h; exact ih h (fun y hy => hm y (by simp [hy]))
/-- Another beginning, from which the first one that lives is as well met. -/
theorem chain_from {lv : Int → Bool} {id : Int → Int} {a a' : Int} {l : List Int} (h : Chain lv id a l) (ha : ∀ x ∈ l, lv x = true → NS id a (id x) → NS id a' (id x)) : Chain lv id a' l := by
  induction l with
  | nil => exact trivial
  | cons x l ih =>
    simp only [Chain] at h ⊢
    split
    · rename_i e; rw [if_pos e] at h; exact ⟨ha x (by simp) e h.1, h.2⟩
    · rename_i e; rw [if_neg e] at h; exact ih h (fun y hy => ha y (by simp [hy]))
theorem chain_del {lv : Int → Bool} {id : Int → Int} (hid : ∀ i, Plc (id i)) {d a : Int} {l : List Int} (ha : Plc a) (hd : ∀ i, 0 ≤ i → i < 4 → id i ≠ id d) (h : Chain lv id a l) : Chain (fun x => if x = d then false else lv x) id a l := by
  induction l generalizing a with
  | nil => exact trivial
  | cons x l ih =>
    simp only [Chain] at h ⊢
    by_cases e : x = d
    · subst e
      simp only [if_true]
      rw [if_neg (by simp)]
      by_cases e2 : lv x = true
      · rw [if_pos e2] at h
        exact chain_from (ih (hid x) h.2) (fun y hy _ hn => ns_trans hid ha (hid x) (hid y) h.1 hn hd)
      · rw [if_neg e2] at h; exact ih ha h
    · simp only [if_neg e]
      split
      · rename_i e2; rw [if_pos e2] at h; exact ⟨h.1, ih (hid x) h.2⟩
      · rename_i e2; rw [if_neg e2] at h; exact ih ha h

/-- How many lie below a distance. -/
def rkL (L : List Int) (d : Int → Int) (v : Int) : Nat := (L.filter fun y => decide (d y < v)).length
theorem rkL_len (L : List Int) (d : Int → Int) (v : Int) : rkL L d v ≤ L.length := List.length_filter_le _ _
theorem rkL_mono (L : List Int) (d : Int → Int) {u v : Int} (h : u ≤ v) : rkL L d u ≤ rkL L d v := by
  unfold rkL
  induction L with
  | nil => simp
  | cons a L ih =>
    simp only [List.filter_cons]
    by_cases h1 : d a < u
    · have h2 : d a < v := by omega
      simp [h1, h2]; exact ih
    · by_cases h2 : d a < v
      · simp [h1, h2]; omega
      · simp [h1, h2]; exact ih
theorem rkL_lt {L : List Int} {d : Int → Int} {u v y : Int} (hy : y ∈ L) (h1 : u ≤ d y) (h2 : d y < v) : rkL L d u < rkL L d v := by
  induction L with
  | nil => cases hy
  | cons a L ih =>
    have hm := rkL_mono L d (u := u) (v := v) (by omega)
    unfold rkL at *
    simp only [List.filter_cons]
    rcases List.mem_cons.1 hy with e | hy
    · subst e
      have h3 : ¬ d y < u := by omega
      simp [h2, h3]; omega
    · have := ih hy
      by_cases h3 : d a < u
      · have h4 : d a < v := by omega
        simp [h3, h4]; exact this
      · by_cases h4 : d a < v
        · simp [h3, h4]; omega
        · simp [h3, h4]; exact this
theorem max_of (l : List Int) (d : Int → Int) (h : l ≠ []) : ∃ y ∈ l, ∀ z ∈ l, d z ≤ d y := by
  induction l with
  | nil => exact absurd rfl h
  | cons a l ih =>
    by_cases e : l = []
    · subst e; exact ⟨a, by simp, fun z hz => by simp at hz; subst hz; omega⟩
    · obtain ⟨y, hy, hm⟩ := ih e
      by_cases q : d a ≤ d y
      · exact ⟨y, by simp [hy], fun z hz => by rcases List.mem_cons.1 hz with e | hz; subst e; exact q; exact hm z hz⟩
      · exact ⟨a, by simp, fun z hz => by rcases List.mem_cons.1 hz with e | hz; subst e; omega; have := hm z hz; omega⟩
theorem len_split {L : List Int} {p q : Int → Bool} {y : Int} (hn : L.Nodup) (hy : y ∈ L) (h : ∀ z ∈ L, z ≠ y → p z = q z) (hp : p y = true) (hq : q y = false) : (L.filter p).length = (L.filter q).length + 1 := by
  induction L with
  | nil => cases hy
  | cons a L ih =>
    obtain ⟨h1, h2⟩ := List.nodup_cons.1 hn
    simp only [List.filter_cons]
    rcases List.mem_cons.1 hy with e | hy
    · subst e
      have e : L.filter p = L.filter q := List.filter_congr (fun z hz => h z (by simp [hz]) (fun e => h1 (by rw [← e]; exact hz)))
      simp [hp, hq, e]
    · have hne : a ≠ y := fun e => h1 (by rw [e]; exact hy)
      have := ih h2 hy (fun z hz => h z (by simp [hz]))
      rw [h a (by simp) hne]
      split
      · simp [this]
      · exact this
theorem rkL_step {L : List Int} {d : Int → Int} {v : Int} (hn : L.Nodup) (hinj : ∀ x ∈ L, ∀ y ∈ L, d x = d y → x = y) (h : rkL L d v ≠ 0) : ∃ y ∈ L, d y < v ∧ rkL L d (d y) + 1 = rkL L d v := by
  have hne : (L.filter fun y => decide (d y < v)) ≠ [] := fun e => h (by unfold rkL; rw [e]; rfl)
  obtain ⟨y, hy, hm⟩ := max_of _ d hne
  obtain ⟨hy1, hy2⟩ := List.mem_filter.1 hy
  have hy3 : d y < v := by simpa using hy2
  refine ⟨y, hy1, hy3, ?_⟩
  unfold rkL
  refine (len_split hn hy1 (fun z hz hzy => ?_) (by simpa using hy3) (by simp)).symm
  by_cases q : d z < v
  · have h1 : d z ≤ d y := hm z (List.mem_filter.2 ⟨hz, by simpa using q⟩)
    have h2 : d z ≠ d y := fun e => hzy (hinj z hz y hy1 e)
    have h3 : d z < d y := by omega
    simp [q, h3]
  · have h3 : ¬ d z < d y := by omega
    simp [q, h3]
end Go.Proofs.YtmajlldfiiokoaaGreatDoor
