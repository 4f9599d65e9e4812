/- What holds of a ring always: each member has a head, no list skips a base member. No program in sight. -/
import Derived.Test.YtmajlldfiiokoaaGreatDoorJoinChStay
namespace Go.Proofs.YtmajlldfiiokoaaGreatDoor
set_option linter.unusedVariables false

structure Inv (R : Rg) : Prop where
  rng : ∀ n, R.lives n = true → 0 ≤ n ∧ n < 32
  base : ∀ n, 0 ≤ n → n < 4 → R.lives n = true
  pl : ∀ n, R.lives n = true → (R.pl n).isSome = true
  u : ∀ n, Plc (R.idOf n)
  id : ∀ n, R.lives n = true → (R.know n).id = R.idOf n
  inj : ∀ n m, R.lives n = true → R.lives m = true → R.idOf n = R.idOf m → n = m
  len : ∀ n, R.lives n = true → (R.know n).succ.length = 3
  mem : ∀ n, R.lives n = true → ∀ x ∈ (R.know n).succ, (R.pl x).isSome = true
  hd : ∀ n, R.lives n = true → ∃ x ∈ (R.know n).succ, R.lives x = true
  ch : ∀ n, R.lives n = true → Chain R.lives R.idOf (R.idOf n) (R.know n).succ

theorem Inv.withCl {R : Rg} (h : Inv R) (D : Nat → Prop) : Inv (R.withCl D) := ⟨h.rng, h.base, h.pl, h.u, h.id, h.inj, h.len, h.mem, h.hd, h.ch⟩
theorem Inv.lens {R : Rg} (h : Inv R) (k : Int) (p : Pe) (hk : R.kn k = some p) : p.succ.length = 3 := by
  have := h.len k (by simp [Rg.lives, hk])
  simpa [Rg.know, hk] using this
theorem Inv.lv {R : Rg} (h : Inv R) : R.lv = R.lives := by
  funext n
  unfold Rg.lv
  cases hl : R.lives n
  · simp
  · have := h.rng n hl
    have e : (n != -1) = true := by simp; omega
    rw [e]; rfl
theorem Inv.h01 {R : Rg} (h : Inv R) : R.idOf 0 ≠ R.idOf 1 := fun e => by
  have := h.inj 0 1 (h.base 0 (by omega) (by omega)) (h.base 1 (by omega) (by omega)) e
  omega
theorem headF_spec {L : Int → Bool} {l : List Int} (h : ∃ x ∈ l, L x = true) : L (headF L l) = true ∧ headF L l ∈ l := by
  induction l with
  | nil => obtain ⟨x, hx, _⟩ := h; cases hx
  | cons a l ih =>
    by_cases e : L a = true
    · simp [headF, e]
    · obtain ⟨x, hx, hl⟩ := h
      rcases List.mem_cons.1 hx with q | q
      · subst q; exact absurd hl e
      · have := ih ⟨x, q, hl⟩
        simp only [headF, e]
        exact ⟨this.1, List.mem_cons_of_mem _ this.2⟩
theorem headF_none {L : Int → Bool} {l : List Int} (h : ∀ y ∈ l, L y = false) : headF L l = -1 := by
  induction l with
  | nil => rfl
  | cons a l ih => simp only [headF, h a (by simp)]; exact ih (fun y hy => h y (by simp [hy]))
theorem chain_head {lv : Int → Bool} {id : Int → Int} {a : Int} {l : List Int} (h : Chain lv id a l) (hx : ∃ x ∈ l, lv x = true) : NS id a (id (headF lv l)) := by
  induction l with
  | nil => obtain ⟨x, hx, _⟩ := hx; cases hx
  | cons b l ih =>
    simp only [Chain, headF] at h ⊢
    by_cases e : lv b = true
    · rw [if_pos e] at h ⊢; exact h.1
    · rw [if_neg e] at h ⊢
      obtain ⟨x, hx, hl⟩ := hx
      rcases List.mem_cons.1 hx with q | q
      · subst q; exact absurd hl e
      · exact ih h ⟨x, q, hl⟩
/-- The head of a member lives, and no base place lies between. -/
theorem Inv.head {R : Rg} (h : Inv R) {n : Int} (hn : R.lives n = true) : R.lives (R.head n) = true ∧ NS R.idOf (R.idOf n) (R.idOf (R.head n)) := by
  unfold Rg.head
  rw [h.lv]
  exact ⟨(headF_spec (h.hd n hn)).1, chain_head (h.ch n hn) (h.hd n hn)⟩
theorem Inv.apart {R : Rg} (h : Inv R) {n m : Int} (hq : NS R.idOf (R.idOf n) (R.idOf m)) : m ≠ n := fun e => by
  subst e
  exact ns_ne h.u h.h01 (h.u _) (h.u _) hq (dist_self _)
/-- Whom a member takes for the next one lives, lies ahead, and is its head or nearer. -/
theorem Inv.next {R : Rg} (h : Inv R) {n : Int} (hn : R.lives n = true) :
    R.lives (R.next n) = true ∧ NS R.idOf (R.idOf n) (R.idOf (R.next n)) ∧ R.next n ≠ n ∧
    (R.next n = R.head n ∨ (R.next n = (R.know (R.head n)).pred ∧ withinB (R.idOf (R.next n)) (R.idOf n) (R.idOf (R.head n)) = true)) := by
  obtain ⟨h1, h2⟩ := h.head hn
  by_cases e : R.near (R.know (R.head n)).pred (R.know n).id (R.head n) = true
  · have hx : R.next n = (R.know (R.head n)).pred := by unfold Rg.next; rw [if_pos e]
    rw [hx]
    simp only [Rg.near, Bool.and_eq_true, h.lv, h.id n hn] at e
    have q := ns_near h.u (h.u n) (h.u _) (h.u _) h2 e.2.2
    exact ⟨e.1, q, h.apart q, .inr ⟨rfl, e.2.2⟩⟩
  · have hx : R.next n = R.head n := by unfold Rg.next; rw [if_neg e]
    rw [hx]
    exact ⟨h1, h2, h.apart h2, .inl rfl⟩
/-- Is whom the head takes for its Pred nearer, it is the next one. -/
theorem Inv.next_near {R : Rg} (h : Inv R) {n : Int} (hn : R.lives n = true) (hq : R.lives (R.know (R.head n)).pred = true) (hw : withinB (R.idOf (R.know (R.head n)).pred) (R.idOf n) (R.idOf (R.head n)) = true) : R.next n = (R.know (R.head n)).pred := by
  unfold Rg.next
  rw [if_pos]
  have := (h.rng _ (h.head hn).1).1
  simp only [Rg.near, Bool.and_eq_true, h.lv, h.id n hn]
  refine ⟨hq, ?_, hw⟩
  simp; omega

theorem know_setK (R : Rg) (n : Int) (p : Pe) (x : Int) : (R.setK n p).know x = if x = n then p else R.know x := by
  simp only [Rg.know, Rg.setK, upd]; split <;> rfl

/-- What one look does. -/
structure Stp (R R' : Rg) (n s : Int) : Prop where
  lives : ∀ x, R'.lives x = R.lives x
  pl : R'.pl = R.pl
  one : R'.know n = ⟨(R.know n).id, (R.know n).pred, s :: (R.know s).succ.take 2⟩
  two : R'.know s = ⟨(R.know s).id, R.rect (R.know s).id (R.know s).pred n, (R.know s).succ⟩
  rest : ∀ x, x ≠ n → x ≠ s → R'.know x = R.know x
theorem Inv.look {R : Rg} (h : Inv R) {n : Int} (hn : R.lives n = true) : Stp R (R.stab n) n (R.next n) := by
  obtain ⟨h1, h2, h3, h4⟩ := h.next hn
  generalize hs : R.next n = s at h1 h2 h3 h4
  have hst : R.stab n = (R.learn n s).tell s n := by unfold Rg.stab; rw [if_pos hn, hs]
  have hlv : ∀ x, (R.learn n s).lives x = R.lives x := fun x => by
    unfold Rg.learn; rw [lives_setK]
    split
    · rename_i e; rw [e, hn]
    · rfl
  have hks : (R.learn n s).know s = R.know s := by unfold Rg.learn; rw [know_setK, if_neg h3]
  have hrc : ∀ a b c, (R.learn n s).rect a b c = R.rect a b c := fun a b c => by
    unfold Rg.rect Rg.lv; rw [hlv b]; rfl
  rw [hst]
  refine ⟨fun x => ?_, rfl, ?_, ?_, fun x x1 x2 => ?_⟩
  · unfold Rg.tell; rw [lives_setK]
    split
    · rename_i e; rw [e, h1]
    · exact hlv x
  · unfold Rg.tell; rw [know_setK, if_neg (Ne.symm h3)]
    unfold Rg.learn; rw [know_setK, if_pos rfl]
  · unfold Rg.tell; rw [know_setK, if_pos rfl, hks, hrc]
  · unfold Rg.tell; rw [know_setK, if_neg x2]
    unfold Rg.learn; rw [know_setK, if_neg x1]
theorem Stp.idOf {R R' : Rg} {n s : Int} (h : Stp R R' n s) (x : Int) : R'.idOf x = R.idOf x := by unfold Rg.idOf; rw [h.pl]
theorem Stp.livesF {R R' : Rg} {n s : Int} (h : Stp R R' n s) : R'.lives = R.lives := funext h.lives
theorem Stp.idF {R R' : Rg} {n s : Int} (h : Stp R R' n s) : R'.idOf = R.idOf := funext h.idOf
theorem Stp.succ {R R' : Rg} {n s : Int} (h : Stp R R' n s) (x : Int) (hx : x ≠ n) : (R'.know x).succ = (R.know x).succ := by
  by_cases e : x = s
  · rw [e, h.two]
  · rw [h.rest x hx e]
theorem Stp.pred {R R' : Rg} {n s : Int} (h : Stp R R' n s) (x : Int) (hx : x ≠ s) : (R'.know x).pred = (R.know x).pred := by
  by_cases e : x = n
  · rw [e, h.one]
  · rw [h.rest x e hx]
theorem Stp.kid {R R' : Rg} {n s : Int} (h : Stp R R' n s) (x : Int) : (R'.know x).id = (R.know x).id := by
  by_cases e : x = n
  · rw [e, h.one]
  · by_cases e2 : x = s
    · rw [e2, h.two]
    · rw [h.rest x e e2]
theorem Inv.stp {R R' : Rg} {n s : Int} (h : Inv R) (hn : R.lives n = true) (hs : R.lives s = true) (hq : NS R.idOf (R.idOf n) (R.idOf s)) (k : Stp R R' n s) : Inv R' := by
  have hsn : s ≠ n := h.apart hq
  refine ⟨fun x hx => h.rng x (by rw [← k.lives]; exact hx), fun x h0 h4 => by rw [k.lives]; exact h.base x h0 h4, fun x hx => by rw [k.pl]; exact h.pl x (by rw [← k.lives]; exact hx), fun x => by rw [k.idOf]; exact h.u x, fun x hx => by rw [k.kid, k.idOf]; exact h.id x (by rw [← k.lives]; exact hx), fun x y hx hy e => ?_, fun x hx => ?_, fun x hx y hy => ?_, fun x hx => ?_, fun x hx => ?_⟩
  · rw [k.lives] at hx hy; rw [k.idOf, k.idOf] at e; exact h.inj x y hx hy e
  · rw [k.lives] at hx
    by_cases e : x = n
    · rw [e, k.one]; simp [h.len s hs]
    · rw [k.succ x e]; exact h.len x hx
  · rw [k.lives] at hx
    rw [k.pl]
    by_cases e : x = n
    · rw [e, k.one] at hy
      rcases List.mem_cons.1 hy with q | q
      · rw [q]; exact h.pl s hs
      · exact h.mem s hs y (List.mem_of_mem_take q)
    · rw [k.succ x e] at hy; exact h.mem x hx y hy
  · rw [k.lives] at hx
    by_cases e : x = n
    · rw [e, k.one]; exact ⟨s, by simp, by rw [k.lives]; exact hs⟩
    · rw [k.succ x e]
      obtain ⟨y, h1, h2⟩ := h.hd x hx
      exact ⟨y, h1, by rw [k.lives]; exact h2⟩
  · rw [k.lives] at hx
    rw [k.livesF, k.idF]
    by_cases e : x = n
    · rw [e, k.one]
      simp only [Chain]
      rw [if_pos hs]
      exact ⟨hq, chain_take (h.ch s hs) 2⟩
    · rw [k.succ x e]; exact h.ch x hx
theorem Inv.stab {R : Rg} (h : Inv R) (n : Int) : Inv (R.stab n) := by
  cases hn : R.lives n
  · have : R.stab n = R := by unfold Rg.stab; rw [hn]; rfl
    rw [this]; exact h
  · obtain ⟨h1, h2, _⟩ := h.next hn
    exact h.stp hn h1 h2 (h.look hn)
theorem Inv.foldS {R : Rg} (h : Inv R) (l : List Int) : Inv (l.foldl (fun R n => R.stab n) R) := by
  induction l generalizing R with
  | nil => exact h
  | cons a l ih => exact ih (h.stab a)
theorem Inv.round {R : Rg} (h : Inv R) : Inv R.round := h.foldS _
theorem Inv.fail {R : Rg} (h : Inv R) (n : Int) : Inv (R.fail n) := by
  unfold Rg.fail
  by_cases q : R.failC n = 0
  · rw [if_pos q]
    obtain ⟨hl, h4⟩ := failC_zero q
    have hnd : R.needed n = false := by
      unfold Rg.failC at q
      rw [hl] at q
      cases hx : R.needed n
      · rfl
      · rw [hx] at q; simp at q
    have hlv : (R.delK n).lives = fun x => if x = n then false else R.lives x := funext (lives_delK R n)
    have hkn : ∀ x, x ≠ n → (R.delK n).know x = R.know x := fun x hx => by simp [Rg.know, Rg.delK, upd, hx]
    have hof : ∀ x, (R.delK n).lives x = true → R.lives x = true ∧ x ≠ n := fun x hx => by
      rw [hlv] at hx
      by_cases e : x = n
      · simp [e] at hx
      · simp [e] at hx; exact ⟨hx, e⟩
    refine ⟨fun x hx => h.rng x (hof x hx).1, fun x h0 hx4 => ?_, fun x hx => h.pl x (hof x hx).1, h.u, fun x hx => by rw [hkn x (hof x hx).2]; exact h.id x (hof x hx).1, fun x y hx hy e => h.inj x y (hof x hx).1 (hof y hy).1 e, fun x hx => by rw [hkn x (hof x hx).2]; exact h.len x (hof x hx).1, fun x hx => by rw [hkn x (hof x hx).2]; exact h.mem x (hof x hx).1, fun x hx => ?_, fun x hx => ?_⟩
    · rw [lives_delK, if_neg (by omega)]; exact h.base x h0 hx4
    · obtain ⟨x1, x2⟩ := hof x hx
      rw [hkn x x2]
      have hr := h.rng x x1
      have hln : R.lone n x = false := by
        unfold Rg.needed anyF at hnd
        rw [List.any_eq_false] at hnd
        have := hnd x ((mem_live R x).2 ⟨hr.1, hr.2, x1⟩)
        simpa using this
      unfold Rg.lone at hln
      have e1 : (x != n) = true := by simpa using x2
      rw [e1] at hln
      simp only [Bool.true_and, beq_eq_false_iff_ne] at hln
      rcases head_lv (fun y => y != -1 && (y != n && R.lives y)) (R.know x).succ with hh | hh
      · exact absurd hh hln
      · have hm : headF (fun y => y != -1 && (y != n && R.lives y)) (R.know x).succ ∈ (R.know x).succ := by
          refine (headF_spec ?_).2
          apply Classical.byContradiction
          intro hno
          apply hln
          exact headF_none (fun y hy => by
            cases hq : (y != -1 && (y != n && R.lives y))
            · rfl
            · exact absurd ⟨y, hy, hq⟩ hno)
        refine ⟨_, hm, ?_⟩
        simp only [Bool.and_eq_true, bne_iff_ne] at hh
        rw [lives_delK, if_neg hh.2.1]; exact hh.2.2
    · obtain ⟨x1, x2⟩ := hof x hx
      rw [hkn x x2, hlv]
      refine chain_del h.u (h.u x) (fun i h0 hi4 e => ?_) (h.ch x x1)
      have := h.inj i n (h.base i h0 hi4) hl e
      omega
  · rw [if_neg q]; exact h

theorem live_nodup (R : Rg) (k : Nat) : (R.liveTo k).Nodup := by
  induction k with
  | zero => exact List.nodup_nil
  | succ k ih =>
    unfold Rg.liveTo
    split
    · rw [List.nodup_append]
      refine ⟨ih, by simp, fun a ha b hb => ?_⟩
      simp at hb
      have := (mem_liveTo R k a).1 ha
      omega
    · exact ih
theorem Inv.in_live {R : Rg} (h : Inv R) {n : Int} (hn : R.lives n = true) : n ∈ R.live := by
  have := h.rng n hn
  exact (mem_live R n).2 ⟨this.1, this.2, hn⟩
theorem not_taken {R : Rg} {id : Int} (h : R.taken id = false) {n : Int} (hn : n ∈ R.live) : R.idOf n ≠ id := fun e => by
  unfold Rg.taken anyF at h
  rw [List.any_eq_false] at h
  have := h n hn
  simp [e] at this
/-- Who is looked for is found. -/
theorem Inv.ahead_spec {R : Rg} (h : Inv R) {id : Int} (hid : Plc id) (ht : R.taken id = false) (k : Nat) {x : Int} (hx : R.lives x = true) (hk : rkL R.live (fun y => dist (R.idOf y) id) (dist (R.idOf x) id) < k) :
    R.lives (R.aheadF id k x) = true ∧ withinB id (R.idOf (R.aheadF id k x)) (R.idOf (R.head (R.aheadF id k x))) = true := by
  induction k generalizing x with
  | zero => omega
  | succ k ih =>
    unfold Rg.aheadF
    by_cases hw : withinB id (R.idOf x) (R.idOf (R.head x)) = true
    · rw [if_pos hw]; exact ⟨hx, hw⟩
    · rw [if_neg hw]
      obtain ⟨h1, h2⟩ := h.head hx
      refine ih h1 ?_
      have hw' : withinB id (R.idOf x) (R.idOf (R.head x)) = false := by simpa using hw
      have q := (within_not hid (h.u x) (h.u (R.head x))).1 hw'
      have z := ns_ne h.u h.h01 (h.u _) (h.u _) h2
      have z1 : dist (R.idOf x) id ≠ 0 := fun e => not_taken ht (h.in_live hx) ((dist_zero (h.u x) hid).1 e)
      have t1 := dist_tri (R.idOf x) (R.idOf (R.head x)) id
      have r1 := dist_rng (R.idOf x) (R.idOf (R.head x))
      have r2 := dist_rng (R.idOf (R.head x)) id
      have r3 := dist_rng (R.idOf x) id
      have := rkL_lt (L := R.live) (d := fun y => dist (R.idOf y) id) (u := dist (R.idOf (R.head x)) id) (v := dist (R.idOf x) id) (y := R.head x) (h.in_live h1) (Int.le_refl _) (by show dist (R.idOf (R.head x)) id < dist (R.idOf x) id; omega)
      omega
theorem Inv.ahead {R : Rg} (h : Inv R) {id via : Int} (hid : Plc id) (ht : R.taken id = false) (hv : R.lives via = true) :
    R.lives (R.ahead id via) = true ∧ withinB id (R.idOf (R.ahead id via)) (R.idOf (R.head (R.ahead id via))) = true := by
  refine h.ahead_spec hid ht 33 hv ?_
  have h1 := rkL_len R.live (fun y => dist (R.idOf y) id) (dist (R.idOf via) id)
  have h2 : R.live.length ≤ 32 := liveTo_len R 32
  omega
theorem Inv.join_at {R : Rg} (h : Inv R) {n id via : Int} (hid : Plc id) (hc : R.joinC n id via = 0) : R.lives (R.ahead id via) = true ∧ withinB id (R.idOf (R.ahead id via)) (R.idOf (R.head (R.ahead id via))) = true ∧ R.taken id = false ∧ 4 ≤ n ∧ n < 32 ∧ R.pl n = none := by
  obtain ⟨h0, h1, h2⟩ := joinC_zero hc
  unfold Rg.joinC at hc
  rw [if_neg (by omega), h2] at hc
  cases hv : R.lives via
  · rw [hv] at hc; simp at hc
  · rw [hv] at hc
    cases ht : R.taken id
    · have q := h.ahead (via := via) hid ht hv
      refine ⟨q.1, q.2, rfl, ?_, h1, h2⟩
      apply Classical.byContradiction
      intro hn
      have := h.pl n (h.base n h0 (by omega))
      rw [h2] at this; cases this
    · rw [ht] at hc; simp at hc
theorem Inv.joined {R : Rg} (h : Inv R) {n id y : Int} (hid : Plc id) (hy : R.lives y = true) (hw : withinB id (R.idOf y) (R.idOf (R.head y)) = true) (ht : R.taken id = false) (h4 : 4 ≤ n) (h32 : n < 32) (hp : R.pl n = none) : Inv (R.joined n id y) := by
  have hlv : ∀ x, (R.joined n id y).lives x = if x = n then true else R.lives x := lives_joined R n id y
  have hkn : ∀ x, (R.joined n id y).know x = if x = n then ⟨id, y, (R.know y).succ⟩ else R.know x := fun x => by unfold Rg.joined; rw [know_setK]; rfl
  have hio : ∀ x, (R.joined n id y).idOf x = if x = n then id else R.idOf x := fun x => by
    unfold Rg.idOf; rw [pl_joined]; split <;> rfl
  have hnp : ∀ x, (R.pl x).isSome = true → x ≠ n := fun x hx e => by rw [e, hp] at hx; cases hx
  have hof : ∀ x, (R.joined n id y).lives x = true → x = n ∨ (x ≠ n ∧ R.lives x = true) := fun x hx => by
    rw [hlv] at hx
    by_cases e : x = n
    · exact .inl e
    · rw [if_neg e] at hx; exact .inr ⟨e, hx⟩
  have hnt := fun x (hx : R.lives x = true) => not_taken ht (h.in_live hx)
  refine ⟨fun x hx => ?_, fun x h0 hx4 => ?_, fun x hx => ?_, fun x => ?_, fun x hx => ?_, fun a b ha hb e => ?_, fun x hx => ?_, fun x hx z hz => ?_, fun x hx => ?_, fun x hx => ?_⟩
  · rcases hof x hx with e | ⟨_, e⟩
    · omega
    · exact h.rng x e
  · rw [hlv]; split
    · rfl
    · exact h.base x h0 hx4
  · rw [pl_joined]; split
    · rfl
    · rename_i e
      rcases hof x hx with e2 | ⟨_, e2⟩
      · exact absurd e2 e
      · exact h.pl x e2
  · rw [hio]; split
    · exact hid
    · exact h.u x
  · rw [hkn, hio]; split
    · rfl
    · rename_i e
      rcases hof x hx with e2 | ⟨_, e2⟩
      · exact absurd e2 e
      · exact h.id x e2
  · rw [hio, hio] at e
    rcases hof a ha with e1 | ⟨n1, e1⟩
    · rcases hof b hb with e2 | ⟨n2, e2⟩
      · rw [e1, e2]
      · rw [if_pos e1, if_neg n2] at e; exact absurd e.symm (hnt b e2)
    · rcases hof b hb with e2 | ⟨n2, e2⟩
      · rw [if_neg n1, if_pos e2] at e; exact absurd e (hnt a e1)
      · rw [if_neg n1, if_neg n2] at e; exact h.inj a b e1 e2 e
  · rw [hkn]; split
    · exact h.len y hy
    · rename_i e
      rcases hof x hx with e2 | ⟨_, e2⟩
      · exact absurd e2 e
      · exact h.len x e2
  · have hz' : (R.pl z).isSome = true := by
      rw [hkn] at hz
      split at hz
      · exact h.mem y hy z hz
      · rename_i e
        rcases hof x hx with e2 | ⟨_, e2⟩
        · exact absurd e2 e
        · exact h.mem x e2 z hz
    rw [pl_joined]; split
    · rfl
    · exact hz'
  · rw [hkn]
    have key : ∀ v, R.lives v = true → ∃ z ∈ (R.know v).succ, (R.joined n id y).lives z = true := fun v hv => by
      obtain ⟨z, h1, h2⟩ := h.hd v hv
      exact ⟨z, h1, by rw [hlv, if_neg (hnp z (h.mem v hv z h1))]; exact h2⟩
    split
    · exact key y hy
    · rename_i e
      rcases hof x hx with e2 | ⟨_, e2⟩
      · exact absurd e2 e
      · exact key x e2
  · have hb : ∀ i, 0 ≤ i → i < 4 → (R.joined n id y).idOf i = R.idOf i := fun i _ h4' => by rw [hio, if_neg (by omega)]
    have hm : ∀ v, R.lives v = true → ∀ z ∈ (R.know v).succ, (R.joined n id y).lives z = R.lives z ∧ (R.joined n id y).idOf z = R.idOf z := fun v hv z hz => by
      have := hnp z (h.mem v hv z hz)
      rw [hlv, hio, if_neg this, if_neg this]; exact ⟨rfl, rfl⟩
    rw [hkn, hio]
    split
    · refine chain_congr ?_ hb (hm y hy)
      have hh := h.ch y hy
      have hd := h.hd y hy
      have hhead : R.head y = headF R.lives (R.know y).succ := by unfold Rg.head; rw [h.lv]
      rw [hhead] at hw
      clear hhead
      generalize (R.know y).succ = l at hh hd hw
      induction l with
      | nil => exact trivial
      | cons b l ih =>
        simp only [Chain, headF] at hh hw ⊢
        by_cases e : R.lives b = true
        · rw [if_pos e] at hh hw ⊢
          exact ⟨ns_mid h.u h.h01 (h.u y) (h.u b) hid hh.1 hw, hh.2⟩
        · rw [if_neg e] at hh hw ⊢
          obtain ⟨z, hz, hl⟩ := hd
          rcases List.mem_cons.1 hz with q | q
          · subst q; exact absurd hl e
          · exact ih hh ⟨z, q, hl⟩ hw
    · rename_i e
      rcases hof x hx with e2 | ⟨_, e2⟩
      · exact absurd e2 e
      · exact chain_congr (h.ch x e2) hb (hm x e2)
theorem Inv.join {R : Rg} (h : Inv R) (n id via : Int) (hid : Plc id) : Inv (R.join n id via) := by
  unfold Rg.join
  by_cases hc : R.joinC n id via = 0
  · rw [if_pos hc]
    obtain ⟨h1, h2, h3, h4, h5, h6⟩ := h.join_at hid hc
    exact h.joined hid h1 h2 h3 h4 h5 h6
  · rw [if_neg hc]; exact h
end Go.Proofs.YtmajlldfiiokoaaGreatDoor
