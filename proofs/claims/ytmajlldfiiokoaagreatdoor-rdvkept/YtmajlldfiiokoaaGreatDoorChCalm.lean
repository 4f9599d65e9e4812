/- A ring in the calm: so many rounds later each member knows what it should. No program in sight. -/
import Derived.Test.YtmajlldfiiokoaaGreatDoorChInv
namespace Go.Proofs.YtmajlldfiiokoaaGreatDoor
set_option linter.unusedVariables false

/-- How many lie nearer ahead of b. -/
def Rg.rk (R : Rg) (b x : Int) : Nat := rkL R.live (fun y => dist (R.idOf y) (R.idOf b)) (dist (R.idOf x) (R.idOf b))
/-- Nobody that lives lies between. -/
def Adj (R : Rg) (c s : Int) : Prop := R.lives c = true ∧ R.lives s = true ∧ c ≠ s ∧ ∀ y, R.lives y = true → withinB (R.idOf y) (R.idOf c) (R.idOf s) = false

theorem Inv.lt_rk {R : Rg} (h : Inv R) {b x y : Int} (hd : R.rk b x < R.rk b y) : dist (R.idOf x) (R.idOf b) < dist (R.idOf y) (R.idOf b) := by
  apply Classical.byContradiction
  intro hn
  have := rkL_mono R.live (fun y => dist (R.idOf y) (R.idOf b)) (u := dist (R.idOf y) (R.idOf b)) (v := dist (R.idOf x) (R.idOf b)) (by omega)
  unfold Rg.rk at hd
  omega
theorem Inv.rk_le {R : Rg} (h : Inv R) (b x : Int) : R.rk b x ≤ R.live.length := rkL_len _ _ _
section
variable {R : Rg} (h : Inv R)
include h
theorem Inv.rk_lt {b x y : Int} (hx : R.lives x = true) (hd : dist (R.idOf x) (R.idOf b) < dist (R.idOf y) (R.idOf b)) : R.rk b x < R.rk b y :=
  rkL_lt (d := fun y => dist (R.idOf y) (R.idOf b)) (h.in_live hx) (Int.le_refl _) hd
theorem Inv.rk_eq {b x y : Int} (hx : R.lives x = true) (hy : R.lives y = true) (he : R.rk b x = R.rk b y) : x = y := by
  have h1 := h.rk_lt (b := b) (x := x) (y := y) hx
  have h2 := h.rk_lt (b := b) (x := y) (y := x) hy
  have e : dist (R.idOf x) (R.idOf b) = dist (R.idOf y) (R.idOf b) := by
    rcases Int.lt_trichotomy (dist (R.idOf x) (R.idOf b)) (dist (R.idOf y) (R.idOf b)) with q | q | q
    · have := h1 q; omega
    · exact q
    · have := h2 q; omega
  exact h.inj x y hx hy (dist_injR (h.u x) (h.u y) e)
theorem Inv.rk_pos {b x : Int} (hb : R.lives b = true) (hx : R.lives x = true) (hne : x ≠ b) : 0 < R.rk b x := by
  have h0 : dist (R.idOf b) (R.idOf b) = 0 := dist_self _
  have r := dist_rng (R.idOf x) (R.idOf b)
  have h1 : dist (R.idOf x) (R.idOf b) ≠ 0 := fun e => hne (h.inj x b hx hb ((dist_zero (h.u x) (h.u b)).1 e))
  have := h.rk_lt (b := b) (x := b) (y := x) hb (by omega)
  omega
theorem Inv.rk_step {b x : Int} (hp : R.rk b x ≠ 0) : ∃ y, R.lives y = true ∧ R.rk b y + 1 = R.rk b x := by
  obtain ⟨y, hy, _, he⟩ := rkL_step (live_nodup R 32) (fun x hx y hy e => h.inj x y ((mem_live R x).1 hx).2.2 ((mem_live R y).1 hy).2.2 (dist_injR (h.u x) (h.u y) e)) hp
  exact ⟨y, ((mem_live R y).1 hy).2.2, he⟩
theorem Inv.rk_exists {b : Int} (k : Nat) : ∀ (m : Nat) (x : Int), R.lives x = true → R.rk b x = k + m → ∃ y, R.lives y = true ∧ R.rk b y = k := by
  intro m
  induction m with
  | zero => intro x hx e; exact ⟨x, hx, e⟩
  | succ m ih =>
    intro x hx e
    obtain ⟨y, hy, he⟩ := h.rk_step (b := b) (x := x) (by omega)
    exact ih y hy (by omega)
theorem Inv.rk_within {b c s y : Int} (hc : R.lives c = true) (hs : R.lives s = true) (hy : R.lives y = true) (hr : R.rk b s < R.rk b c) : withinB (R.idOf y) (R.idOf c) (R.idOf s) = true ↔ R.rk b s < R.rk b y ∧ R.rk b y < R.rk b c := by
  rw [between_iff (h.u y) (h.u c) (h.u s) (h.u b) (h.lt_rk hr)]
  exact ⟨fun q => ⟨h.rk_lt hs q.1, h.rk_lt hy q.2⟩, fun q => ⟨h.lt_rk q.1, h.lt_rk q.2⟩⟩
theorem Inv.adj_rk {b c s : Int} (hc : R.lives c = true) (hs : R.lives s = true) (hr : R.rk b s + 1 = R.rk b c) : Adj R c s := by
  refine ⟨hc, hs, fun e => by subst e; omega, fun y hy => ?_⟩
  cases hw : withinB (R.idOf y) (R.idOf c) (R.idOf s)
  · rfl
  · have := (h.rk_within (b := b) hc hs hy (by omega)).1 hw
    omega
theorem Inv.adj_uniq {c s t : Int} (h1 : Adj R c s) (h2 : Adj R c t) : s = t := by
  obtain ⟨hc, hs, n1, w1⟩ := h1
  obtain ⟨_, ht, n2, w2⟩ := h2
  have q1 := (within_not (h.u t) (h.u c) (h.u s)).1 (w1 t ht)
  have q2 := (within_not (h.u s) (h.u c) (h.u t)).1 (w2 s hs)
  have z1 : dist (R.idOf c) (R.idOf s) ≠ 0 := fun e => n1 (h.inj c s hc hs ((dist_zero (h.u c) (h.u s)).1 e))
  have z2 : dist (R.idOf c) (R.idOf t) ≠ 0 := fun e => n2 (h.inj c t hc ht ((dist_zero (h.u c) (h.u t)).1 e))
  have e : dist (R.idOf c) (R.idOf s) = dist (R.idOf c) (R.idOf t) := by omega
  exact h.inj s t hs ht (dist_inj (h.u s) (h.u t) e)
/-- From c to s nobody lies: whoever else lives, c is met on the way from there to s. -/
theorem Inv.adj_back {c s p : Int} (ha : Adj R c s) (hp : R.lives p = true) (hne : p ≠ c) : withinB (R.idOf c) (R.idOf p) (R.idOf s) = true := by
  obtain ⟨hc, hs, n1, w1⟩ := ha
  have n1' : R.idOf c ≠ R.idOf s := fun e => n1 (h.inj c s hc hs e)
  have n2' : R.idOf p ≠ R.idOf c := fun e => hne (h.inj p c hp hc e)
  by_cases e : p = s
  · subst e
    rw [within_iff (h.u c) (h.u p) (h.u p)]
    exact ⟨fun e => n2' ((dist_zero (h.u p) (h.u c)).1 e), .inl (dist_self _)⟩
  · have n3' : R.idOf p ≠ R.idOf s := fun q => e (h.inj p s hp hs q)
    have uc := h.u c
    have us := h.u s
    have up := h.u p
    unfold Plc at uc us up
    have := w1 p hp
    rw [round_turn (R.idOf p) (R.idOf c) (R.idOf s) up uc us n2' (Ne.symm n3') (Ne.symm n1'), round_not (R.idOf c) (R.idOf s) (R.idOf p) uc us up n1' n2' n3', this]
    rfl
theorem Inv.toward_rk {b c : Int} (h0 : 0 ≤ b) (h4 : b < 4) (hc : R.lives c = true) (hne : c ≠ b) : R.rk b (R.head c) < R.rk b c := by
  obtain ⟨h1, h2⟩ := h.head hc
  exact h.rk_lt h1 (toward h.u h.h01 (h.u c) (h.u _) h2 h0 h4 (fun e => hne (h.inj c b hc (h.base b h0 h4) e))).1
end

theorem Stp.live {R R' : Rg} {n s : Int} (k : Stp R R' n s) : R'.live = R.live := Alike.live ⟨fun n _ => k.lives n, k.pl⟩
theorem Stp.rk {R R' : Rg} {n s : Int} (k : Stp R R' n s) (b x : Int) : R'.rk b x = R.rk b x := by unfold Rg.rk; rw [k.live, k.idF]
theorem Stp.adj {R R' : Rg} {n s : Int} (k : Stp R R' n s) (c t : Int) : Adj R' c t ↔ Adj R c t := by unfold Adj; rw [k.livesF, k.idF]
theorem Stp.lv {R R' : Rg} {n s : Int} (k : Stp R R' n s) : R'.lv = R.lv := by funext x; unfold Rg.lv; rw [k.lives]
theorem Stp.head {R R' : Rg} {n s : Int} (k : Stp R R' n s) (x : Int) (hx : x ≠ n) : R'.head x = R.head x := by unfold Rg.head; rw [k.lv, k.succ x hx]
theorem Stp.head1 {R R' : Rg} {n s : Int} (h : Inv R) (k : Stp R R' n s) (hs : R.lives s = true) : R'.head n = s := by
  unfold Rg.head; rw [k.lv, k.one, h.lv]; simp [headF, hs]

/-- A member's head is the next one, or behind so many. -/
def Am (j : Nat) (b c : Int) (R : Rg) : Prop := R.rk b c ≤ R.rk b (R.head c) + 1 ∨ j ≤ R.rk b (R.head c)
/-- Whom a member that is the next one takes for its Pred. -/
def Bm (b c : Int) (R : Rg) : Prop := ∀ s, R.lives s = true → R.rk b s + 1 = R.rk b c → (R.know s).pred = c

theorem stab_dead {R : Rg} {n : Int} (h : R.lives n = false) : R.stab n = R := by unfold Rg.stab; rw [h]; rfl
theorem Am.stab {R : Rg} (h : Inv R) {j : Nat} {b c : Int} (h0 : 0 ≤ b) (h4 : b < 4) (hc : R.lives c = true) (hne : c ≠ b) (ha : Am j b c R) (n : Int) : Am j b c (R.stab n) := by
  cases hn : R.lives n
  · rw [stab_dead hn]; exact ha
  · have k := h.look hn
    obtain ⟨h1, h2, h3, hx⟩ := h.next hn
    unfold Am at *
    by_cases e : c = n
    · subst e
      rw [k.rk, k.rk, k.head1 h h1]
      rcases hx with hx | ⟨_, hx⟩
      · rw [hx]; exact ha
      · have := (h.rk_within (b := b) hc (h.head hc).1 h1 (h.toward_rk h0 h4 hc hne)).1 hx
        omega
    · rw [k.rk, k.rk, k.head c e]; exact ha
theorem rect_keep {R : Rg} (h : Inv R) {c s n : Int} (ha : Adj R c s) (hn : R.lives n = true) : R.rect (R.know s).id c n = c := by
  apply rectF_no
  · rw [h.lv]; exact ha.1
  · rw [h.id s ha.2.1, ha.2.2.2 n hn]; simp
theorem pred_stab {R : Rg} (h : Inv R) {c s : Int} (ha : Adj R c s) (hp : (R.know s).pred = c) (n : Int) : ((R.stab n).know s).pred = c := by
  cases hn : R.lives n
  · rw [stab_dead hn]; exact hp
  · have k := h.look hn
    by_cases e : s = R.next n
    · have := k.two
      rw [← e] at this
      rw [this, hp]
      exact rect_keep h ha hn
    · rw [k.pred s e]; exact hp
theorem lives_stab {R : Rg} (h : Inv R) (n x : Int) : (R.stab n).lives x = R.lives x := by
  cases hn : R.lives n
  · rw [stab_dead hn]
  · exact (h.look hn).lives x
theorem rk_stab {R : Rg} (h : Inv R) (n b x : Int) : (R.stab n).rk b x = R.rk b x := by
  cases hn : R.lives n
  · rw [stab_dead hn]
  · exact (h.look hn).rk b x
theorem adj_stab {R : Rg} (h : Inv R) (n c s : Int) : Adj (R.stab n) c s ↔ Adj R c s := by
  cases hn : R.lives n
  · rw [stab_dead hn]
  · exact (h.look hn).adj c s
theorem Bm.stab {R : Rg} (h : Inv R) {b c : Int} (hc : R.lives c = true) (hb : Bm b c R) (n : Int) : Bm b c (R.stab n) := by
  intro s hs hr
  rw [lives_stab h] at hs
  rw [rk_stab h, rk_stab h] at hr
  exact pred_stab h (h.adj_rk hc hs hr) (hb s hs hr) n

/-- What a round gives: what each look keeps, and what a member's own look gives. -/
theorem fold_gets (P : Rg → Prop) (Q : Int → Rg → Prop) (hP : ∀ R n, P R → P (R.stab n)) (hl : ∀ R, P R → Inv R) (h1 : ∀ R c, P R → R.lives c = true → Q c (R.stab c)) (h2 : ∀ R c n, P R → R.lives c = true → Q c R → Q c (R.stab n)) :
    ∀ (l : List Int) (R : Rg), P R → (∀ c ∈ l, R.lives c = true) → P (l.foldl (fun R n => R.stab n) R) ∧ (∀ c, R.lives c = true → (c ∈ l ∨ Q c R) → Q c (l.foldl (fun R n => R.stab n) R)) := by
  intro l
  induction l with
  | nil => intro R hR _; exact ⟨hR, fun c _ hc => by rcases hc with q | q; cases q; exact q⟩
  | cons a l ih =>
    intro R hR hm
    have hi := hl R hR
    obtain ⟨i1, i2⟩ := ih (R.stab a) (hP R a hR) (fun c hc => by rw [lives_stab hi]; exact hm c (by simp [hc]))
    refine ⟨i1, fun c hc hq => i2 c (by rw [lives_stab hi]; exact hc) ?_⟩
    rcases hq with q | q
    · rcases List.mem_cons.1 q with e | q
      · subst e; exact .inr (h1 R c hR hc)
      · exact .inl q
    · exact .inr (h2 R c a hR hc q)
theorem round_gets (P : Rg → Prop) (Q : Int → Rg → Prop) (hP : ∀ R n, P R → P (R.stab n)) (hl : ∀ R, P R → Inv R) (h1 : ∀ R c, P R → R.lives c = true → Q c (R.stab c)) (h2 : ∀ R c n, P R → R.lives c = true → Q c R → Q c (R.stab n)) {R : Rg} (hR : P R) : P R.round ∧ ∀ c, R.lives c = true → Q c R.round := by
  obtain ⟨i1, i2⟩ := fold_gets P Q hP hl h1 h2 R.live R hR (fun c hc => ((mem_live R c).1 hc).2.2)
  exact ⟨i1, fun c hc => i2 c hc (.inl ((hl R hR).in_live hc))⟩
theorem lives_round {R : Rg} (h : Inv R) (x : Int) : R.round.lives x = R.lives x := by
  have : ∀ (l : List Int) (R : Rg), Inv R → (l.foldl (fun R n => R.stab n) R).lives x = R.lives x := by
    intro l
    induction l with
    | nil => intro R _; rfl
    | cons a l ih => intro R h; exact (ih (R.stab a) (h.stab a)).trans (lives_stab h a x)
  exact this _ R h
/-- So far, all is right. -/
def Far (b : Int) (k j : Nat) (R : Rg) : Prop := Inv R ∧ (∀ c, R.lives c = true → c ≠ b → Am k b c R) ∧ (∀ c, R.lives c = true → R.rk b c ≤ j → Bm b c R)
theorem Far.stab {b : Int} (h0 : 0 ≤ b) (h4 : b < 4) {k j : Nat} {R : Rg} (h : Far b k j R) (n : Int) : Far b k j (R.stab n) := by
  obtain ⟨hi, ha, hb⟩ := h
  refine ⟨hi.stab n, fun c hc hne => ?_, fun c hc hk => ?_⟩
  · rw [lives_stab hi] at hc; exact (ha c hc hne).stab hi h0 h4 hc hne n
  · rw [lives_stab hi] at hc; rw [rk_stab hi] at hk; exact (hb c hc hk).stab hi hc n
theorem Far.odd {b : Int} (h0 : 0 ≤ b) (h4 : b < 4) {k : Nat} {R : Rg} (h : Far b k k R) : Far b k (k + 1) R.round := by
  have hi := h.1
  obtain ⟨p, q⟩ := round_gets (Far b k k) (fun c R => R.rk b c = k + 1 → Bm b c R) (fun R n hR => hR.stab h0 h4 n) (fun R hR => hR.1)
    (fun R c hR hc hk s hs hr => by
      have hi := hR.1
      rw [rk_stab hi] at hk
      rw [lives_stab hi] at hs
      rw [rk_stab hi, rk_stab hi] at hr
      have hne : c ≠ b := fun e => by
        subst e
        have h1 := hi.lt_rk (b := c) (x := s) (y := c) (by omega)
        have h2 : dist (R.idOf c) (R.idOf c) = 0 := dist_self _
        have h3 := dist_rng (R.idOf s) (R.idOf c)
        omega
      have adj := hi.adj_rk hc hs hr
      have hh := hi.head hc
      have ht := hi.toward_rk h0 h4 hc hne
      have hA := hR.2.1 c hc hne
      unfold Am at hA
      have e1 : R.head c = s := hi.rk_eq (b := b) hh.1 hs (by omega)
      obtain ⟨n1, n2, n3, n4⟩ := hi.next hc
      have e2 : R.next c = s := by
        rcases n4 with q | ⟨_, q⟩
        · exact q.trans e1
        · rw [e1, adj.2.2.2 _ n1] at q; cases q
      have k := hi.look hc
      rw [e2] at k
      rw [k.two]
      show R.rect (R.know s).id (R.know s).pred c = c
      by_cases ep : (R.know s).pred = c
      · rw [ep]; exact rect_keep hi adj hc
      · cases hl : R.lives (R.know s).pred
        · exact rectF_dead (by rw [hi.lv]; exact hl)
        · apply rectF_in
          rw [hi.id s hs, hi.adj_back adj hl ep]
          have := (hi.rng c hc).1
          simp; omega)
    (fun R c n hR hc hQ hk => by
      rw [rk_stab hR.1] at hk
      exact (hQ hk).stab hR.1 hc n) h
  refine ⟨p.1, p.2.1, fun c hc hk => ?_⟩
  by_cases e : R.round.rk b c ≤ k
  · exact p.2.2 c hc e
  · rw [lives_round hi] at hc
    exact q c hc (by omega)
theorem Far.even {b : Int} (h0 : 0 ≤ b) (h4 : b < 4) {k : Nat} {R : Rg} (h : Far b k (k + 1) R) : Far b (k + 1) (k + 1) R.round := by
  have hi := h.1
  obtain ⟨p, q⟩ := round_gets (Far b k (k + 1)) (fun c R => c ≠ b → Am (k + 1) b c R) (fun R n hR => hR.stab h0 h4 n) (fun R hR => hR.1)
    (fun R c hR hc hne => by
      have hi := hR.1
      have hA := hR.2.1 c hc hne
      by_cases hd : Am (k + 1) b c R
      · exact hd.stab hi h0 h4 hc hne c
      · have hh := hi.head hc
        have ht := hi.toward_rk h0 h4 hc hne
        unfold Am at hA hd
        obtain ⟨z, hz, hzk⟩ := hi.rk_exists (b := b) (k + 1) (R.rk b c - (k + 1)) c hc (by omega)
        have hp : (R.know (R.head c)).pred = z := hR.2.2 z hz (by omega) (R.head c) hh.1 (by omega)
        have hw : withinB (R.idOf z) (R.idOf c) (R.idOf (R.head c)) = true := (hi.rk_within (b := b) hc hh.1 hz ht).2 ⟨by omega, by omega⟩
        have e2 : R.next c = z := by
          rw [← hp] at hz hw
          rw [hi.next_near hc hz hw, hp]
        have k' := hi.look hc
        rw [e2] at k'
        right
        rw [k'.head1 hi hz, k'.rk, hzk]
        exact Nat.le_refl _)
    (fun R c n hR hc hQ hne => (hQ hne).stab hR.1 h0 h4 hc hne n) h
  refine ⟨p.1, fun c hc hne => ?_, p.2.2⟩
  rw [lives_round hi] at hc
  exact q c hc hne

def Rg.rounds (R : Rg) : Nat → Rg
  | 0 => R
  | k + 1 => (R.rounds k).round
theorem Inv.rounds {R : Rg} (h : Inv R) (k : Nat) : Inv (R.rounds k) := by
  induction k with
  | zero => exact h
  | succ k ih => exact ih.round
theorem alike_rounds (R : Rg) (k : Nat) : Alike R (R.rounds k) := by
  induction k with
  | zero => exact Alike.refl R
  | succ k ih => exact ih.trans (round_alike _)
theorem Far.rounds {b : Int} (h0 : 0 ≤ b) (h4 : b < 4) {R : Rg} (h : Inv R) (k : Nat) : Far b k k (R.rounds (2 * k)) := by
  induction k with
  | zero =>
    refine ⟨h, fun c hc hne => .inr (Nat.zero_le _), fun c hc hk s hs hr => ?_⟩
    have : R.rk b c ≤ 0 := hk
    have : R.rk b s + 1 = R.rk b c := hr
    omega
  | succ k ih => exact (ih.odd h0 h4).even h0 h4
/-- More rounds undo nothing. -/
theorem Far.round {b : Int} (h0 : 0 ≤ b) (h4 : b < 4) {k j : Nat} {R : Rg} (h : Far b k j R) : Far b k j R.round :=
  (round_gets (Far b k j) (fun _ _ => True) (fun R n hR => hR.stab h0 h4 n) (fun R hR => hR.1) (fun _ _ _ _ => trivial) (fun _ _ _ _ _ _ => trivial) h).1

/-- Each head and each Pred is the next one. -/
def Hds (R : Rg) : Prop := ∀ c s, Adj R c s → R.head c = s ∧ (R.know s).pred = c
theorem hds_of {R : Rg} (f0 : Far 0 R.live.length R.live.length R) (f1 : Far 1 R.live.length R.live.length R) : Hds R := by
  have key : ∀ b, 0 ≤ b → b < 4 → Far b R.live.length R.live.length R → ∀ c s, c ≠ b → Adj R c s → R.head c = s ∧ (R.know s).pred = c := by
    intro b h0 h4 f c s hne ha
    have hi := f.1
    have hc := ha.1
    have hp := hi.rk_pos (b := b) (hi.base b h0 h4) hc hne
    obtain ⟨y, hy, hr⟩ := hi.rk_step (b := b) (x := c) (by omega)
    have e : y = s := hi.adj_uniq (hi.adj_rk hc hy hr) ha
    subst e
    have hA := f.2.1 c hc hne
    have ht := hi.toward_rk h0 h4 hc hne
    have hl := hi.rk_le b c
    unfold Am at hA
    exact ⟨hi.rk_eq (b := b) (hi.head hc).1 hy (by omega), f.2.2 c hc hl y hy hr⟩
  intro c s ha
  by_cases e : c = 0
  · exact key 1 (by omega) (by omega) f1 c s (by omega) ha
  · exact key 0 (by omega) (by omega) f0 c s e ha
theorem Inv.adj_exists {R : Rg} (h : Inv R) {c : Int} (hc : R.lives c = true) : ∃ s, Adj R c s := by
  have key : ∀ b, 0 ≤ b → b < 4 → c ≠ b → ∃ s, Adj R c s := by
    intro b h0 h4 hne
    have hp := h.rk_pos (b := b) (h.base b h0 h4) hc hne
    obtain ⟨y, hy, hr⟩ := h.rk_step (b := b) (x := c) (by omega)
    exact ⟨y, h.adj_rk hc hy hr⟩
  by_cases e : c = 0
  · exact key 1 (by omega) (by omega) (by omega)
  · exact key 0 (by omega) (by omega) e
theorem Hds.stab {R : Rg} (hi : Inv R) (h : Hds R) (n : Int) : Hds (R.stab n) := by
  intro c s ha
  rw [adj_stab hi] at ha
  obtain ⟨h1, h2⟩ := h c s ha
  refine ⟨?_, pred_stab hi ha h2 n⟩
  cases hn : R.lives n
  · rw [stab_dead hn]; exact h1
  · have k := hi.look hn
    obtain ⟨n1, n2, n3, n4⟩ := hi.next hn
    by_cases e : c = n
    · subst e
      rw [k.head1 hi n1]
      rcases n4 with q | ⟨_, q⟩
      · exact q.trans h1
      · rw [h1, ha.2.2.2 _ n1] at q; cases q
    · rw [k.head c e]; exact h1
theorem Hds.next {R : Rg} (hi : Inv R) (h : Hds R) {c s : Int} (ha : Adj R c s) : R.next c = s := by
  obtain ⟨n1, n2, n3, n4⟩ := hi.next ha.1
  have h1 := (h c s ha).1
  rcases n4 with q | ⟨_, q⟩
  · exact q.trans h1
  · rw [h1, ha.2.2.2 _ n1] at q; cases q
/-- One behind the other. -/
def AdjC (R : Rg) : Int → List Int → Prop
  | _, [] => True
  | c, s :: l => Adj R c s ∧ AdjC R s l
theorem AdjC.take {R : Rg} {c : Int} {l : List Int} (h : AdjC R c l) (k : Nat) : AdjC R c (l.take k) := by
  induction l generalizing c k with
  | nil => simp; exact h
  | cons s l ih =>
    cases k with
    | zero => exact trivial
    | succ k => exact ⟨h.1, ih h.2 k⟩
theorem adjC_stab {R : Rg} (hi : Inv R) (n : Int) {c : Int} {l : List Int} (h : AdjC R c l) : AdjC (R.stab n) c l := by
  induction l generalizing c with
  | nil => exact trivial
  | cons s l ih => exact ⟨(adj_stab hi n c s).2 h.1, ih h.2⟩
/-- The first j of each list are the next ones. -/
def Lst (j : Nat) (c : Int) (R : Rg) : Prop := AdjC R c ((R.know c).succ.take j)
/-- Heads and Preds are right, the lists so far. -/
def Rgt (j : Nat) (R : Rg) : Prop := Inv R ∧ Hds R ∧ ∀ c, R.lives c = true → Lst j c R
theorem lst_own {R : Rg} {j : Nat} (h : Rgt j R) {c : Int} (hc : R.lives c = true) : Lst (j + 1) c (R.stab c) := by
  obtain ⟨hi, hh, hl⟩ := h
  obtain ⟨s, ha⟩ := hi.adj_exists hc
  have k := hi.look hc
  rw [hh.next hi ha] at k
  unfold Lst
  rw [k.one]
  simp only [List.take_succ_cons]
  refine adjC_stab hi c ?_
  refine ⟨ha, ?_⟩
  rw [List.take_take, Nat.min_comm, ← List.take_take]
  exact AdjC.take (hl s ha.2.1) 2
theorem Lst.le {R : Rg} {j k : Nat} {c : Int} (h : Lst j c R) (hk : k ≤ j) : Lst k c R := by
  unfold Lst at *
  have := h.take k
  rwa [List.take_take, Nat.min_eq_left hk] at this
theorem lst_stab {R : Rg} {i j : Nat} (h : Rgt i R) (hij : j ≤ i + 1) {c : Int} (hc : R.lives c = true) (hl : Lst j c R) (n : Int) : Lst j c (R.stab n) := by
  cases hn : R.lives n
  · rw [stab_dead hn]; exact hl
  · by_cases e : c = n
    · subst e; exact (lst_own h hc).le hij
    · unfold Lst at *
      rw [(h.1.look hn).succ c e]
      exact adjC_stab h.1 n hl
theorem Rgt.stab {R : Rg} {j : Nat} (h : Rgt j R) (n : Int) : Rgt j (R.stab n) :=
  ⟨h.1.stab n, h.2.1.stab h.1 n, fun c hc => by rw [lives_stab h.1] at hc; exact lst_stab h (by omega) hc (h.2.2 c hc) n⟩
theorem Rgt.more {R : Rg} {j : Nat} (h : Rgt j R) : Rgt (j + 1) R.round := by
  obtain ⟨p, q⟩ := round_gets (Rgt j) (fun c R => Lst (j + 1) c R) (fun R n hR => hR.stab n) (fun R hR => hR.1) (fun R c hR hc => lst_own hR hc) (fun R c n hR hc hl => lst_stab hR (Nat.le_refl _) hc hl n) h
  exact ⟨p.1, p.2.1, fun c hc => by rw [lives_round h.1] at hc; exact q c hc⟩
theorem Rgt.round {R : Rg} {j : Nat} (h : Rgt j R) : Rgt j R.round := ⟨h.more.1, h.more.2.1, fun c hc => (h.more.2.2 c hc).le (by omega)⟩
/-- CALM: so many rounds later all is as it should be. -/
theorem Inv.calm {R : Rg} (h : Inv R) {m : Nat} (hm : 2 * R.live.length + 3 ≤ m) : Rgt 3 (R.rounds m) := by
  have hl : ∀ k, (R.rounds k).live = R.live := fun k => (alike_rounds R k).live
  have h0 : Rgt 0 (R.rounds (2 * R.live.length)) := by
    have f0 := Far.rounds (b := 0) (by omega) (by omega) h R.live.length
    have f1 := Far.rounds (b := 1) (by omega) (by omega) h R.live.length
    refine ⟨h.rounds _, hds_of ?_ ?_, fun c hc => ?_⟩
    · rw [hl]; exact f0
    · rw [hl]; exact f1
    · simp [Lst, AdjC]
  have h3 : Rgt 3 (R.rounds (2 * R.live.length + 3)) := h0.more.more.more
  obtain ⟨d, rfl⟩ : ∃ d, m = 2 * R.live.length + 3 + d := ⟨m - (2 * R.live.length + 3), by omega⟩
  clear hm
  induction d with
  | zero => exact h3
  | succ d ih => exact ih.round
end Go.Proofs.YtmajlldfiiokoaaGreatDoor
