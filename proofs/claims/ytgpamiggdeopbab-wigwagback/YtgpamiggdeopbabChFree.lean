/- Who may go: lists with two that live; a ring that nobody left. The base of the document's example. No program in sight. -/
import Derived.Test.YtgpamiggdeopbabChHop
namespace Go.Proofs.Ytgpamiggdeopbab
set_option linter.unusedVariables false

/-- A list with two that live. -/
def Dbl (m : Int) (R : Rg) : Prop := ∃ x y, x ∈ (R.know m).succ ∧ y ∈ (R.know m).succ ∧ x ≠ y ∧ R.lives x = true ∧ R.lives y = true
theorem Inv.free {R : Rg} (h : Inv R) (hd : ∀ m, R.lives m = true → Dbl m R) {n : Int} (hn : R.lives n = true) (h4 : 4 ≤ n) : R.failC n = 0 := by
  have hnd : R.needed n = false := by
    unfold Rg.needed anyF
    rw [List.any_eq_false]
    intro m hm
    have hl := ((mem_live R m).1 hm).2.2
    obtain ⟨x, y, hx, hy, hxy, lx, ly⟩ := hd m hl
    have key : ∃ z ∈ (R.know m).succ, (fun x => x != -1 && (x != n && R.lives x)) z = true := by
      have rx := (h.rng x lx).1
      have ry := (h.rng y ly).1
      by_cases e : x = n
      · refine ⟨y, hy, ?_⟩
        have : y ≠ n := fun q => hxy (e.trans q.symm)
        simp [ly, this]; omega
      · refine ⟨x, hx, ?_⟩
        simp [lx, e]; omega
    have hs := (headF_spec key).1
    simp only [Bool.and_eq_true, bne_iff_ne] at hs
    unfold Rg.lone
    have e1 : (headF (fun x => x != -1 && (x != n && R.lives x)) (R.know m).succ == -1) = false := by simpa using hs.1
    rw [e1]; simp
  unfold Rg.failC
  rw [hn, hnd]
  have : ¬ n < 4 := by omega
  simp [this]
/-- Nobody went. -/
def NW (R : Rg) : Prop := ∀ x, (R.pl x).isSome = true → R.lives x = true
theorem Inv.dbl_nw {R : Rg} (h : Inv R) (hw : NW R) (m : Int) (hm : R.lives m = true) : Dbl m R := by
  have hl := h.len m hm
  have hall : ∀ x ∈ (R.know m).succ, R.lives x = true := fun x hx => hw x (h.mem m hm x hx)
  have hc := h.ch m hm
  unfold Dbl
  match hs : (R.know m).succ, hl with
  | [s1, s2, s3], _ =>
    rw [hs] at hall hc
    have l1 := hall s1 (by simp)
    have l2 := hall s2 (by simp)
    simp only [Chain, l1, l2, if_true] at hc
    exact ⟨s1, s2, by simp, by simp, fun e => h.apart hc.2.1 e.symm, l1, l2⟩
theorem NW.join {R : Rg} (hw : NW R) (n id via : Int) : NW (R.join n id via) := by
  unfold Rg.join
  split
  · intro x hx
    rw [pl_joined] at hx
    rw [lives_joined]
    split
    · rfl
    · rename_i e; rw [if_neg e] at hx; exact hw x hx
  · exact hw
theorem NW.round {R : Rg} (h : Inv R) (hw : NW R) : NW R.round := by
  intro x hx
  rw [lives_round h]
  rw [(round_alike R).2] at hx
  exact hw x hx
theorem pl_round (R : Rg) : R.round.pl = R.pl := (round_alike R).2
theorem idOf_round (R : Rg) (x : Int) : R.round.idOf x = R.idOf x := (round_alike R).idOf x

theorem ringA_pl (x : Int) : (ringA.pl x).isSome = true ↔ 0 ≤ x ∧ x < 4 := by
  have e : ringA.pl x = if x = 3 then some 40 else if x = 2 then some 30 else if x = 1 then some 20 else if x = 0 then some 10 else none := rfl
  rw [e]
  split
  · simp; omega
  · split
    · simp; omega
    · split
      · simp; omega
      · split
        · simp; omega
        · simp; omega
theorem ringA_lives (x : Int) : ringA.lives x = true ↔ 0 ≤ x ∧ x < 4 := by
  have e : ringA.kn x = if x = 3 then some ⟨40, 2, [0, 1, 2]⟩ else if x = 2 then some ⟨30, 1, [3, 0, 1]⟩ else if x = 1 then some ⟨20, 0, [2, 3, 0]⟩ else if x = 0 then some ⟨10, 3, [1, 2, 3]⟩ else none := rfl
  unfold Rg.lives
  rw [e]
  split
  · simp; omega
  · split
    · simp; omega
    · split
      · simp; omega
      · split
        · simp; omega
        · simp; omega
theorem ringA_inv : Inv ringA := by
  have hp : ids4.Pairwise (· < ·) := by simp [ids4]
  have hm : ∀ x, x ∈ ids4 ↔ x ∈ ids4 := fun _ => Iff.rfl
  obtain ⟨c0, c1, c2, c3, hc⟩ := circ_of (l := ids4) rfl hp hm rfl
  refine hc.inv hp hm (fun k => ?_)
  match k with
  | 0 => simp [ids4, Plc]
  | 1 => simp [ids4, Plc]
  | 2 => simp [ids4, Plc]
  | 3 => simp [ids4, Plc]
  | k + 4 => simp [ids4, Plc]
theorem ringA_nw : NW ringA := fun x hx => (ringA_lives x).2 ((ringA_pl x).1 hx)

theorem joinC_of {R : Rg} {n id via : Int} (h0 : 0 ≤ n) (h1 : n < 32) (hp : (R.pl n).isSome = false) (hv : R.lives via = true) : R.joinC n id via = if R.taken id then 8 else if R.ahead id via = -1 then 5 else 0 := by
  unfold Rg.joinC
  rw [if_neg (by omega), hp, hv]
  simp
theorem taken_of {R : Rg} {n id : Int} (h : Inv R) (hn : R.lives n = true) (hid : R.idOf n = id) : R.taken id = true := by
  unfold Rg.taken anyF
  rw [List.any_eq_true]
  exact ⟨n, h.in_live hn, by simp [hid]⟩
theorem not_taken_of {R : Rg} {id : Int} (h : ∀ n, R.lives n = true → R.idOf n ≠ id) : R.taken id = false := by
  unfold Rg.taken anyF
  rw [List.any_eq_false]
  intro n hn
  simpa using h n ((mem_live R n).1 hn).2.2
/-- What the calls of ChordTaken come to. -/
theorem taken_calls {n m id : Int} (hn : 4 ≤ n) (hn2 : n < 32) (hm : 4 ≤ m) (hm2 : m < 32) (hne : n ≠ m) (hid : Plc id) :
    (ringA.joinC n id 0 = 8 ∧ (ringA.join n id 0).joinC m id 1 = 8) ∨
    (ringA.joinC n id 0 = 0 ∧ (ringA.join n id 0).joinC m id 1 = 8 ∧ (((ringA.join n id 0).join m id 1).round).failC n = 0 ∧
      ((((ringA.join n id 0).join m id 1).round.fail n).round).joinC m id 2 = 0 ∧
      (((((ringA.join n id 0).join m id 1).round.fail n).round).join m id 2).lives m = true ∧ (((((ringA.join n id 0).join m id 1).round.fail n).round).join m id 2).lives n = false) := by
  have hi := ringA_inv
  have pn : (ringA.pl n).isSome = false := by
    cases h : (ringA.pl n).isSome
    · rfl
    · have := (ringA_pl n).1 h; omega
  have pm : (ringA.pl m).isSome = false := by
    cases h : (ringA.pl m).isSome
    · rfl
    · have := (ringA_pl m).1 h; omega
  have j1 := joinC_of (R := ringA) (id := id) (via := 0) (by omega) hn2 pn (hi.base 0 (by omega) (by omega))
  cases ht : ringA.taken id
  · rw [ht] at j1
    have ha := hi.ahead (via := 0) hid ht (hi.base 0 (by omega) (by omega))
    have hr := (hi.rng _ ha.1).1
    rw [if_neg (by simp), if_neg (by omega)] at j1
    right
    refine ⟨j1, ?_⟩
    have hi1 := hi.join n id 0 hid
    have nw1 := ringA_nw.join n id 0
    have e1 : ringA.join n id 0 = ringA.joined n id (ringA.ahead id 0) := if_pos j1
    have lv1 : ∀ x, (ringA.join n id 0).lives x = if x = n then true else ringA.lives x := fun x => by rw [e1, lives_joined]
    have pl1 : ∀ x, (ringA.join n id 0).pl x = if x = n then some id else ringA.pl x := fun x => by rw [e1, pl_joined]
    have io1 : ∀ x, (ringA.join n id 0).idOf x = if x = n then id else ringA.idOf x := fun x => by unfold Rg.idOf; rw [pl1]; split <;> rfl
    generalize ringA.join n id 0 = R1 at *
    have tk : R1.taken id = true := taken_of hi1 (n := n) (by rw [lv1, if_pos rfl]) (by rw [io1, if_pos rfl])
    have j2 : R1.joinC m id 1 = 8 := by
      rw [joinC_of (by omega) hm2 (by rw [pl1, if_neg (Ne.symm hne)]; exact pm) (hi1.base 1 (by omega) (by omega)), tk]; rfl
    have e2 : R1.join m id 1 = R1 := by unfold Rg.join; rw [j2]; rfl
    rw [e2]
    refine ⟨j2, ?_⟩
    have hi2 := hi1.round
    have nw2 := nw1.round hi1
    have ln : R1.round.lives n = true := by rw [lives_round hi1, lv1, if_pos rfl]
    have f := hi2.free (hi2.dbl_nw nw2) ln hn
    refine ⟨f, ?_⟩
    have hi3 := hi2.fail n
    have e3 : R1.round.fail n = R1.round.delK n := if_pos f
    rw [e3] at hi3 ⊢
    have hi4 := hi3.round
    have lv4 : ∀ x, (R1.round.delK n).round.lives x = if x = n then false else ringA.lives x := fun x => by
      rw [lives_round hi3, lives_delK]
      split
      · rfl
      · rename_i e; rw [lives_round hi1, lv1, if_neg e]
    have pl4 : ∀ x, (R1.round.delK n).round.pl x = if x = n then some id else ringA.pl x := fun x => by
      rw [pl_round]
      show R1.round.pl x = _
      rw [pl_round, pl1]
    generalize (R1.round.delK n).round = R4 at *
    have tk4 : R4.taken id = false := not_taken_of (fun x hx => by
      rw [lv4] at hx
      by_cases e : x = n
      · rw [if_pos e] at hx; cases hx
      · rw [if_neg e] at hx
        have := not_taken ht (hi.in_live hx)
        unfold Rg.idOf at *
        rw [pl4, if_neg e]; exact this)
    have ha4 := hi4.ahead (via := 2) hid tk4 (hi4.base 2 (by omega) (by omega))
    have hr4 := (hi4.rng _ ha4.1).1
    have j4 : R4.joinC m id 2 = 0 := by
      rw [joinC_of (by omega) hm2 (by rw [pl4, if_neg (Ne.symm hne)]; exact pm) (hi4.base 2 (by omega) (by omega)), tk4, if_neg (by simp), if_neg (by omega)]
    have e5 : R4.join m id 2 = R4.joined m id (R4.ahead id 2) := if_pos j4
    refine ⟨j4, ?_, ?_⟩
    · rw [e5, lives_joined, if_pos rfl]
    · rw [e5, lives_joined, if_neg hne, lv4, if_pos rfl]
  · rw [ht] at j1
    left
    have j1' : ringA.joinC n id 0 = 8 := by rw [j1]; rfl
    have e1 : ringA.join n id 0 = ringA := by unfold Rg.join; rw [j1']; rfl
    refine ⟨j1', ?_⟩
    rw [e1, joinC_of (by omega) hm2 pm (hi.base 1 (by omega) (by omega)), ht]; rfl
end Go.Proofs.Ytgpamiggdeopbab
