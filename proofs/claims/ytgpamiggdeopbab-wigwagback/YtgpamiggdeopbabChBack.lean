/- Members that come and go again leave the base as it was. No program in sight. -/
import Derived.Test.YtgpamiggdeopbabChFree
namespace Go.Proofs.Ytgpamiggdeopbab
set_option linter.unusedVariables false

/-- The first one of the list lives. -/
def Fst (m : Int) (R : Rg) : Prop := ∃ s t, (R.know m).succ = s :: t ∧ R.lives s = true
theorem fst_own {R : Rg} (h : Inv R) {c : Int} (hc : R.lives c = true) : Fst c (R.stab c) := by
  have k := h.look hc
  obtain ⟨n1, _⟩ := h.next hc
  exact ⟨R.next c, (R.know (R.next c)).succ.take 2, by rw [k.one], by rw [k.lives]; exact n1⟩
theorem fst_stab {R : Rg} (h : Inv R) {c : Int} (hc : R.lives c = true) (hf : Fst c R) (n : Int) : Fst c (R.stab n) := by
  by_cases e : n = c
  · rw [e]; exact fst_own h hc
  · cases hn : R.lives n
    · rw [stab_dead hn]; exact hf
    · have k := h.look hn
      obtain ⟨s, t, h1, h2⟩ := hf
      exact ⟨s, t, by rw [k.succ c (Ne.symm e)]; exact h1, by rw [k.lives]; exact h2⟩
theorem Inv.round_fst {R : Rg} (h : Inv R) : ∀ m, R.round.lives m = true → Fst m R.round := by
  obtain ⟨p, q⟩ := round_gets Inv (fun c R => Fst c R) (fun R n hR => hR.stab n) (fun R hR => hR) (fun R c hR hc => fst_own hR hc) (fun R c n hR hc hf => fst_stab hR hc hf n) h
  intro m hm
  rw [lives_round h] at hm
  exact q m hm
def AllF (R : Rg) : Prop := ∀ m, R.lives m = true → Fst m R
def AllD (R : Rg) : Prop := ∀ m, R.lives m = true → Dbl m R
theorem dbl_own {R : Rg} (h : Inv R) (ha : AllF R) {c : Int} (hc : R.lives c = true) : Dbl c (R.stab c) := by
  have k := h.look hc
  obtain ⟨n1, n2, n3, _⟩ := h.next hc
  obtain ⟨t, u, e, ht⟩ := ha _ n1
  have hh : R.head (R.next c) = t := by unfold Rg.head; rw [h.lv, e]; simp [headF, ht]
  have hne : t ≠ R.next c := by
    have := h.apart (h.head n1).2
    rwa [hh] at this
  refine ⟨R.next c, t, by rw [k.one]; simp, ?_, Ne.symm hne, by rw [k.lives]; exact n1, by rw [k.lives]; exact ht⟩
  rw [k.one, e]; simp
theorem dbl_stab {R : Rg} (h : Inv R) (ha : AllF R) {c : Int} (hc : R.lives c = true) (hf : Dbl c R) (n : Int) : Dbl c (R.stab n) := by
  by_cases e : n = c
  · rw [e]; exact dbl_own h ha hc
  · cases hn : R.lives n
    · rw [stab_dead hn]; exact hf
    · have k := h.look hn
      obtain ⟨x, y, h1, h2, h3, h4, h5⟩ := hf
      exact ⟨x, y, by rw [k.succ c (Ne.symm e)]; exact h1, by rw [k.succ c (Ne.symm e)]; exact h2, h3, by rw [k.lives]; exact h4, by rw [k.lives]; exact h5⟩
theorem Inv.round_dbl {R : Rg} (h : Inv R) (ha : AllF R) : AllD R.round := by
  obtain ⟨p, q⟩ := round_gets (fun R => Inv R ∧ AllF R) (fun c R => Dbl c R) (fun R n hR => ⟨hR.1.stab n, fun m hm => by rw [lives_stab hR.1] at hm; exact fst_stab hR.1 hm (hR.2 m hm) n⟩) (fun R hR => hR.1) (fun R c hR hc => dbl_own hR.1 hR.2 hc) (fun R c n hR hc hf => dbl_stab hR.1 hR.2 hc hf n) ⟨h, ha⟩
  intro m hm
  rw [lives_round h] at hm
  exact q m hm

/-- Those that live, beside the base. -/
structure Mbr (R : Rg) (M : List Int) : Prop where
  nd : M.Nodup
  lv : ∀ x ∈ M, R.lives x = true ∧ 4 ≤ x
  all : ∀ x, R.lives x = true → x < 4 ∨ x ∈ M
  pl : ∀ n, 0 ≤ n → n < 4 → R.pl n = ringA.pl n
theorem Mbr.round {R : Rg} (h : Inv R) {M : List Int} (hm : Mbr R M) : Mbr R.round M :=
  ⟨hm.nd, fun x hx => by rw [lives_round h]; exact hm.lv x hx, fun x hx => by rw [lives_round h] at hx; exact hm.all x hx, fun n h0 h4 => by rw [pl_round]; exact hm.pl n h0 h4⟩
theorem Mbr.rounds {R : Rg} (h : Inv R) {M : List Int} (hm : Mbr R M) (k : Nat) : Mbr (R.rounds k) M := by
  induction k with
  | zero => exact hm
  | succ k ih => exact ih.round (h.rounds k)
theorem Mbr.join {R : Rg} (h : Inv R) {M : List Int} (hm : Mbr R M) {n id via : Int} (hid : Plc id) : Mbr (R.join n id via) (if R.joinC n id via = 0 then M ++ [n] else M) := by
  unfold Rg.join
  by_cases hc : R.joinC n id via = 0
  · rw [if_pos hc, if_pos hc]
    obtain ⟨h1, h2, h3, h4, h5, h6⟩ := h.join_at hid hc
    have hln : R.lives n = false := by
      cases hl : R.lives n
      · rfl
      · have := h.pl n hl; rw [h6] at this; cases this
    have hni : n ∉ M := fun q => by have := (hm.lv n q).1; rw [hln] at this; cases this
    refine ⟨?_, fun x hx => ?_, fun x hx => ?_, fun x h0 hx4 => ?_⟩
    · rw [List.nodup_append]
      refine ⟨hm.nd, by simp, fun a ha b hb e => ?_⟩
      simp at hb
      rw [e, hb] at ha; exact hni ha
    · rw [lives_joined]
      rcases List.mem_append.1 hx with q | q
      · have := hm.lv x q
        split
        · exact ⟨rfl, this.2⟩
        · exact this
      · simp at q; subst q; simp; exact h4
    · rw [lives_joined] at hx
      by_cases e : x = n
      · right; simp [e]
      · rw [if_neg e] at hx
        rcases hm.all x hx with q | q
        · exact .inl q
        · exact .inr (by simp [q])
    · rw [pl_joined, if_neg (by omega)]; exact hm.pl x h0 hx4
  · rw [if_neg hc, if_neg hc]; exact hm
theorem nd_mid {L D : List Int} {x : Int} (h : (L ++ x :: D).Nodup) : x ∉ L ++ D ∧ (L ++ D).Nodup := by
  obtain ⟨h1, h2, h3⟩ := List.nodup_append.1 h
  obtain ⟨h4, h5⟩ := List.nodup_cons.1 h2
  refine ⟨fun q => ?_, List.nodup_append.2 ⟨h1, h5, fun a ha b hb => h3 a ha b (List.mem_cons_of_mem _ hb)⟩⟩
  rcases List.mem_append.1 q with q | q
  · exact h3 x q x (by simp) rfl
  · exact h4 q
theorem Mbr.fail {R : Rg} {L D : List Int} {x : Int} (hm : Mbr R (L ++ x :: D)) : Mbr (R.fail x) (if R.failC x = 0 then L ++ D else L ++ [x] ++ D) := by
  unfold Rg.fail
  by_cases hc : R.failC x = 0
  · rw [if_pos hc, if_pos hc]
    have hnd := hm.nd
    obtain ⟨hx0, hnd2⟩ := nd_mid hnd
    refine ⟨hnd2, fun y hy => ?_, fun y hy => ?_, hm.pl⟩
    · have hne : y ≠ x := fun e => hx0 (by rw [← e]; exact hy)
      rw [lives_delK, if_neg hne]
      refine hm.lv y ?_
      rcases List.mem_append.1 hy with q | q
      · exact List.mem_append.2 (.inl q)
      · exact List.mem_append.2 (.inr (List.mem_cons_of_mem _ q))
    · rw [lives_delK] at hy
      by_cases e : y = x
      · rw [if_pos e] at hy; cases hy
      · rw [if_neg e] at hy
        rcases hm.all y hy with q | q
        · exact .inl q
        · right
          rcases List.mem_append.1 q with q | q
          · exact List.mem_append.2 (.inl q)
          · rcases List.mem_cons.1 q with q | q
            · exact absurd q e
            · exact List.mem_append.2 (.inr q)
  · rw [if_neg hc, if_neg hc]
    simpa using hm
/-- How far: of all lists the first one lives, or two do. -/
def Pha (R : Rg) (p : Nat) : Prop := (1 ≤ p → AllF R) ∧ (2 ≤ p → AllD R) ∧ p ≤ 2
/-- One turn, ahead of it R0: so many of G have been asked. -/
structure Trn (R0 R : Rg) (p : Nat) (G L : List Int) (j : Nat) : Prop where
  mem : Mbr R (L ++ G.drop j)
  few : L.length ≤ j
  none : L.length = j → R.kn = R0.kn
  two : p = 2 → 1 ≤ j → L.length < j
theorem Trn.start {R : Rg} {p : Nat} {G : List Int} (hm : Mbr R G) : Trn R R p G [] 0 := ⟨by simpa using hm, Nat.le_refl _, fun _ => rfl, fun _ h => by omega⟩
theorem Trn.next {R0 R : Rg} {p : Nat} {G L : List Int} {j : Nat} (hi : Inv R) (hph : Pha R0 p) (h : Trn R0 R p G L j) (hj : j < G.length) :
    (R.failC (G.getD j 0) = 0 → Trn R0 (R.fail (G.getD j 0)) p G L (j + 1)) ∧ (R.failC (G.getD j 0) ≠ 0 → Trn R0 (R.fail (G.getD j 0)) p G (L ++ [G.getD j 0]) (j + 1)) := by
  have e : G.drop j = G.getD j 0 :: G.drop (j + 1) := by
    rw [List.drop_eq_getElem_cons hj]
    have e0 : G.getD j 0 = G[j] := by simp [List.getD, hj]
    rw [e0]
  have hm := h.mem
  rw [e] at hm
  have hf := hm.fail
  have few := h.few
  have lvx := hm.lv (G.getD j 0) (by simp)
  have free : p = 2 → j = 0 → R.failC (G.getD j 0) = 0 := fun hp h0 => by
    subst h0
    have hl : L.length = 0 := by omega
    have hk := h.none hl
    refine hi.free (fun m hm' => ?_) lvx.1 lvx.2
    have hlv : ∀ x, R.lives x = R0.lives x := fun x => by unfold Rg.lives; rw [hk]
    have hkn : ∀ x, R.know x = R0.know x := fun x => by unfold Rg.know; rw [hk]
    obtain ⟨x, y, d1, d2, d3, d4, d5⟩ := hph.2.1 (by omega) m (by rw [← hlv]; exact hm')
    exact ⟨x, y, by rw [hkn]; exact d1, by rw [hkn]; exact d2, d3, by rw [hlv]; exact d4, by rw [hlv]; exact d5⟩
  generalize G.getD j 0 = x at *
  refine ⟨fun hc => ?_, fun hc => ?_⟩
  · rw [if_pos hc] at hf
    exact ⟨hf, by omega, fun q => by omega, fun _ _ => by omega⟩
  · rw [if_neg hc] at hf
    refine ⟨by simpa using hf, by simp; omega, fun q => ?_, fun hp _ => ?_⟩
    · have : R.fail x = R := if_neg hc
      rw [this]
      exact h.none (by simp at q; omega)
    · have h0 : j ≠ 0 := fun q => hc (free hp q)
      have := h.two hp (by omega)
      simp; omega
/-- What a turn comes to: less is left to do. -/
theorem Trn.done {R0 R : Rg} {p : Nat} {G L : List Int} (hi0 : Inv R0) (hi : Inv R) (hph : Pha R0 p) (h : Trn R0 R p G L G.length) (hG : G ≠ []) :
    Mbr R.round L ∧ ∃ p', Pha R.round p' ∧ 2 * L.length + (2 - p') < 2 * G.length + (2 - p) := by
  have hm := h.mem
  simp at hm
  refine ⟨hm.round hi, ?_⟩
  have few := h.few
  have hg : 1 ≤ G.length := by cases G with | nil => exact absurd rfl hG | cons a l => simp
  by_cases q : L.length = G.length
  · have hk := h.none q
    have hp2 : p ≠ 2 := fun e => by have := h.two e hg; omega
    by_cases hp1 : p = 1
    · subst hp1
      have hlv : ∀ x, R.lives x = R0.lives x := fun x => by unfold Rg.lives; rw [hk]
      have hkn : ∀ x, R.know x = R0.know x := fun x => by unfold Rg.know; rw [hk]
      have af : AllF R := fun m hm' => by
        obtain ⟨s, t, e1, e2⟩ := hph.1 (by omega) m (by rw [← hlv]; exact hm')
        exact ⟨s, t, by rw [hkn]; exact e1, by rw [hlv]; exact e2⟩
      exact ⟨2, ⟨fun _ => hi.round_fst, fun _ => hi.round_dbl af, Nat.le_refl _⟩, by omega⟩
    · have := hph.2.2
      exact ⟨1, ⟨fun _ => hi.round_fst, fun h => by omega, by omega⟩, by omega⟩
  · exact ⟨1, ⟨fun _ => hi.round_fst, fun h => by omega, by omega⟩, by omega⟩

theorem lives_congr {R R' : Rg} (h : ∀ x, R.lives x = R'.lives x) (k : Nat) : R.liveTo k = R'.liveTo k := by
  induction k with
  | zero => rfl
  | succ k ih => unfold Rg.liveTo; rw [h, ih]
theorem livA : ringA.liveTo 32 = [0, 1, 2, 3] := by kernel_rfl
theorem Mbr.four {R : Rg} (h : Inv R) (hm : Mbr R []) : R.live = [0, 1, 2, 3] := by
  have : ∀ x, R.lives x = ringA.lives x := fun x => by
    cases h1 : R.lives x
    · cases h2 : ringA.lives x
      · rfl
      · have := (ringA_lives x).1 h2
        rw [h.base x this.1 this.2] at h1; cases h1
    · have h2 := hm.all x h1
      have h3 := (h.rng x h1).1
      rcases h2 with q | q
      · exact ((ringA_lives x).2 ⟨h3, q⟩).symm
      · cases q
  exact (lives_congr this 32).trans livA
/-- The base alone, in the calm, knows what it knew. -/
theorem back_end {R : Rg} (h : Rgt 3 R) (hm : Mbr R []) : R.kn 0 = ringA.kn 0 ∧ R.kn 1 = ringA.kn 1 ∧ R.kn 2 = ringA.kn 2 ∧ R.kn 3 = ringA.kn 3 := by
  obtain ⟨hi, hh, hl⟩ := h
  have p0 : R.idOf 0 = 10 := by unfold Rg.idOf; rw [hm.pl 0 (by omega) (by omega)]; rfl
  have p1 : R.idOf 1 = 20 := by unfold Rg.idOf; rw [hm.pl 1 (by omega) (by omega)]; rfl
  have p2 : R.idOf 2 = 30 := by unfold Rg.idOf; rw [hm.pl 2 (by omega) (by omega)]; rfl
  have p3 : R.idOf 3 = 40 := by unfold Rg.idOf; rw [hm.pl 3 (by omega) (by omega)]; rfl
  have l0 := hi.base 0 (by omega) (by omega)
  have l1 := hi.base 1 (by omega) (by omega)
  have l2 := hi.base 2 (by omega) (by omega)
  have l3 := hi.base 3 (by omega) (by omega)
  have who : ∀ y, R.lives y = true → y = 0 ∨ y = 1 ∨ y = 2 ∨ y = 3 := fun y hy => by
    have := (hi.rng y hy).1
    rcases hm.all y hy with q | q
    · omega
    · cases q
  have a0 : Adj R 0 1 := ⟨l0, l1, by omega, fun y hy => by rcases who y hy with e | e | e | e <;> rw [e] <;> simp only [p0, p1, p2, p3] <;> decide⟩
  have a1 : Adj R 1 2 := ⟨l1, l2, by omega, fun y hy => by rcases who y hy with e | e | e | e <;> rw [e] <;> simp only [p0, p1, p2, p3] <;> decide⟩
  have a2 : Adj R 2 3 := ⟨l2, l3, by omega, fun y hy => by rcases who y hy with e | e | e | e <;> rw [e] <;> simp only [p0, p1, p2, p3] <;> decide⟩
  have a3 : Adj R 3 0 := ⟨l3, l0, by omega, fun y hy => by rcases who y hy with e | e | e | e <;> rw [e] <;> simp only [p0, p1, p2, p3] <;> decide⟩
  have key : ∀ c s1 s2 s3 q i, Adj R c s1 → Adj R s1 s2 → Adj R s2 s3 → Adj R q c → R.idOf c = i → R.kn c = some ⟨i, q, [s1, s2, s3]⟩ := by
    intro c s1 s2 s3 q i b1 b2 b3 b4 hid
    have hlc := b1.1
    have hlen := hi.len c hlc
    have hls := hl c hlc
    have hpr := (hh q c b4).2
    have hidc := hi.id c hlc
    unfold Lst at hls
    cases hk : R.kn c with
    | none => simp [Rg.lives, hk] at hlc
    | some p =>
      obtain ⟨pi, pp, ps⟩ := p
      simp only [Rg.know, hk, Option.getD_some] at hlen hls hpr hidc
      match ps, hlen with
      | [x1, x2, x3], _ =>
        simp only [List.take, AdjC] at hls
        have e1 := hi.adj_uniq hls.1 b1
        rw [e1] at hls
        have e2 := hi.adj_uniq hls.2.1 b2
        rw [e2] at hls
        have e3 := hi.adj_uniq hls.2.2.1 b3
        rw [e1, e2, e3, hpr, hidc, hid]
  exact ⟨key 0 1 2 3 3 10 a0 a1 a2 a3 p0, key 1 2 3 0 0 20 a1 a2 a3 a0 p1, key 2 3 0 1 1 30 a2 a3 a0 a1 p2, key 3 0 1 2 2 40 a3 a0 a1 a2 p3⟩
end Go.Proofs.Ytgpamiggdeopbab
