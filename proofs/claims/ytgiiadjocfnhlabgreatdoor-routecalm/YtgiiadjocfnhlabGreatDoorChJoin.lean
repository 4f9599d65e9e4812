/- Join, Fail. -/
import Derived.Test.YtgiiadjocfnhlabGreatDoorChTake
namespace Go.Proofs.YtgiiadjocfnhlabGreatDoor
open Go.ChangeShapes Go.WideShapes Go.ChangeAt Go.RowKit Go.Deep
set_option linter.unusedVariables false

/-- An error by its code; 0: none. -/
def errV (c : Int) : Value := if c = 0 then .nilIface else .iface 57 (.int .i64 c)
def Rg.joinC (R : Rg) (n id via : Int) : Int := if n < 0 ∨ 32 ≤ n then 1 else if (R.pl n).isSome then 7 else if !R.lives via then 6 else if R.taken id then 8 else if R.ahead id via = -1 then 5 else 0
def Rg.joined (R : Rg) (n id x : Int) : Rg := (R.setP n id).setK n ⟨id, x, (R.know x).succ⟩
def Rg.join (R : Rg) (n id via : Int) : Rg := if R.joinC n id via = 0 then R.joined n id (R.ahead id via) else R
def Rg.failC (R : Rg) (n : Int) : Int := if !R.lives n then 6 else if n < 4 ∨ R.needed n = true then 5 else 0
def Rg.fail (R : Rg) (n : Int) : Rg := if R.failC n = 0 then R.delK n else R

theorem RingAt.succ_i64 {w : World} {r gp gk : Nat} {R : Rg} (h : RingAt w r gp gk R) (n : Int) : ∀ x ∈ (R.know n).succ, i64 x := by
  obtain ⟨a, len, cap, hp, _⟩ := h.asked n
  exact ints_ok hp.row
theorem headF_i64 {L : Int → Bool} {l : List Int} (h : ∀ x ∈ l, i64 x) : i64 (headF L l) := by
  induction l with
  | nil => simp [headF, i64]
  | cons a l ih =>
    cases q : L a
    · simp only [headF, q]; exact ih (fun x hx => h x (List.mem_cons_of_mem _ hx))
    · simp only [headF, q]; exact h a (List.mem_cons_self ..)
theorem RingAt.ahead_i64 {w : World} {r gp gk : Nat} {R : Rg} (h : RingAt w r gp gk R) (id via : Int) (hv : i64 via) : i64 (R.ahead id via) := by
  unfold Rg.ahead
  generalize 33 = k
  induction k generalizing via with
  | zero => simp [Rg.aheadF, i64]
  | succ k ih =>
    unfold Rg.aheadF
    split
    · exact hv
    · exact ih _ (headF_i64 (h.succ_i64 via))

theorem field_succ (v0 v1 : Value) (a : Option Addr) (l c : Nat) (w : World) : (Instr.field 63 (.agg #[v0, v1, .slice a l c]) 2).run Tryz.prog w = .ok (.slice a l c) w := by kernel_rfl

set_option maxRecDepth 100000 in
set_option maxHeartbeats 2000000 in
theorem join_r (r gp gk : Nat) (R : Rg) (n id via : Int) (w : World) (h : RingAt w r gp gk R) (hid : u64 id) (hv : i64 via) :
    Calls Tryz.prog 28 #[.pointer (some ⟨r, 0, none⟩), .int .i64 n, .int .u64 id, .int .i64 via] w fun e w' => e = .returned (errV (R.joinC n id via)) ∧ RingAt w' r gp gk (R.join n id via) ∧ Kp w w' gp gk := by
  have H : Hid (RingAt w r gp gk R) := h
  have HI : Hid (u64 id ∧ i64 (R.ahead id via)) := ⟨hid, h.ahead_i64 id via hv⟩
  have c0 := h.c0
  have c1 := h.c1
  have z := h.lt.1
  have hw := h.was n
  have fs := fun v0 v1 a l c w => field_succ v0 v1 a l c w
  clear h hid hv
  obtain ⟨C, hC⟩ : ∃ C, R.joinC n id via = C := ⟨_, rfl⟩
  have HC : Hid (R.joinC n id via = C) := hC
  have HJ : Hid (C ≠ 0 → R.join n id via = R) := fun hc => by unfold Rg.join; rw [if_neg (by rw [HC.out]; exact hc)]
  rw [hC]
  unfold Rg.joinC at hC
  by_cases q0 : n < 0 ∨ 32 ≤ n
  · rw [if_pos q0] at hC
    subst hC
    rw [HJ.out (by omega)]
    rcases q0 with q0 | q0
    · go_enter Tryz.func28, Tryz.ntmps28
      go_wp2
      go_ret
      exact ⟨rfl, H.out, Kp.refl _ _ _⟩
    · have q1 : ¬ n < 0 := by omega
      go_enter Tryz.func28, Tryz.ntmps28
      go_wp2
      go_ret
      exact ⟨rfl, H.out, Kp.refl _ _ _⟩
  rw [if_neg q0] at hC
  have q1 : 0 ≤ n := by omega
  have q2 : n < 32 := by omega
  clear q0
  by_cases hp : (R.pl n).isSome = true
  · rw [hp] at hw
    rw [hp, if_pos rfl] at hC
    subst hC
    rw [HJ.out (by omega)]
    clear hp
    go_enter Tryz.func28, Tryz.ntmps28
    go_wp2
    go_ret
    exact ⟨rfl, H.out, Kp.refl _ _ _⟩
  replace hp : (R.pl n).isSome = false := by simpa using hp
  rw [hp] at hw
  rw [hp, if_neg (by simp)] at hC
  clear hp
  cases hl : R.lives via
  · rw [hl, if_pos (by simp)] at hC
    subst hC
    rw [HJ.out (by omega)]
    have HQ : Hid _ := hl
    clear hl
    go_enter Tryz.func28, Tryz.ntmps28
    go_wp2_with (go_at_call 38; refine (lives_r _ _ _ _ _ _ H.out).mono ?_; rintro e w' ⟨rfl, hb⟩; rw [HQ.out])
    go_ret
    exact ⟨rfl, H.out.below hb, Kp.ofBelow hb⟩
  rw [hl, if_neg (by simp)] at hC
  have HQ : Hid _ := hl
  clear hl
  by_cases ht : R.taken id = true
  · rw [ht, if_pos rfl] at hC
    subst hC
    rw [HJ.out (by omega)]
    have HT : Hid _ := ht
    clear ht
    go_enter Tryz.func28, Tryz.ntmps28
    go_wp2_with (first
      | (go_at_call 38; refine (lives_r _ _ _ _ _ _ H.out).mono ?_; rintro e w1 ⟨rfl, hb1⟩; rw [HQ.out])
      | (go_at_call 63; refine (taken_r _ _ _ _ _ _ (H.out.below hb1)).mono ?_; rintro e w2 ⟨rfl, hb2⟩; rw [HT.out]))
    go_ret
    exact ⟨rfl, (H.out.below hb1).below hb2, (Kp.ofBelow hb1).trans (Kp.ofBelow hb2)⟩
  replace ht : R.taken id = false := by simpa using ht
  rw [ht, if_neg (by simp)] at hC
  have HT : Hid _ := ht
  clear ht
  obtain ⟨x, hx⟩ : ∃ x, R.ahead id via = x := ⟨_, rfl⟩
  have HX : Hid _ := hx
  rw [hx] at hC
  clear hx
  by_cases qx : x = -1
  · subst qx
    rw [if_pos rfl] at hC
    subst hC
    rw [HJ.out (by omega)]
    go_enter Tryz.func28, Tryz.ntmps28
    go_wp2_with (first
      | (go_at_call 38; refine (lives_r _ _ _ _ _ _ H.out).mono ?_; rintro e w1 ⟨rfl, hb1⟩; rw [HQ.out])
      | (go_at_call 63; refine (taken_r _ _ _ _ _ _ (H.out.below hb1)).mono ?_; rintro e w2 ⟨rfl, hb2⟩; rw [HT.out])
      | (go_at_call 64; refine (ahead_r _ _ _ _ _ _ _ ((H.out.below hb1).below hb2)).mono ?_; rintro e w3 ⟨rfl, hb3⟩; rw [HX.out]))
    go_ret
    exact ⟨rfl, ((H.out.below hb1).below hb2).below hb3, (Kp.ofBelow hb1).trans ((Kp.ofBelow hb2).trans (Kp.ofBelow hb3))⟩
  rw [if_neg qx] at hC
  subst hC
  have HJ2 : Hid (R.join n id via = R.joined n id x) := by
    show R.join n id via = _
    unfold Rg.join; rw [if_pos HC.out, HX.out]
  have qx1 : (x == -1) = false := by simpa using qx
  go_enter Tryz.func28, Tryz.ntmps28
  go_wp2_with (first
    | (go_at_call 38; refine (lives_r _ _ _ _ _ _ H.out).mono ?_; rintro e w1 ⟨rfl, hb1⟩; rw [HQ.out])
    | (go_at_call 63; refine (taken_r _ _ _ _ _ _ (H.out.below hb1)).mono ?_; rintro e w2 ⟨rfl, hb2⟩; rw [HT.out]))
  refine (ahead_r _ _ _ _ _ _ _ ((H.out.below hb1).below hb2)).mono ?_
  rintro e w3 ⟨rfl, hb3⟩
  rw [HX.out]
  have K3 : Hid (Kp w w3 gp gk) := (Kp.ofBelow hb1).trans ((Kp.ofBelow hb2).trans (Kp.ofBelow hb3))
  have H3 : Hid (RingAt w3 r gp gk R) := ((H.out.below hb1).below hb2).below hb3
  clear hb1 hb2 hb3 c0 c1 z hw
  obtain ⟨a, len, cap, hp, hlook⟩ := H3.out.asked x
  have HP : Hid (PeIn w3 id x a len cap (R.know x).succ) := ⟨HI.out.1, by rw [← HX.out]; exact HI.out.2, hp.row, hp.hcap, hp.hmost, hp.hnil⟩
  have HCL : Hid (∀ x, a = some x → ¬ R.cl x.block) := H3.out.clear hlook
  have c1 := H3.out.c1
  have z := H3.out.lt.1
  clear hp
  go_wp2_with (go_at_call 65; refine (add_r r gp gk R n ⟨id, x, (R.know x).succ⟩ a len cap _ H3.out HP.out HCL.out).mono ?_; rintro e w4 ⟨rfl, h4, k4⟩)
  go_ret
  exact ⟨rfl, by rw [HJ2.out]; exact h4, K3.out.trans k4⟩

set_option maxRecDepth 100000 in
set_option maxHeartbeats 2000000 in
theorem fail_r (r gp gk : Nat) (R : Rg) (n : Int) (w : World) (h : RingAt w r gp gk R) :
    Calls Tryz.prog 29 #[.pointer (some ⟨r, 0, none⟩), .int .i64 n] w fun e w' => e = .returned (errV (R.failC n)) ∧ RingAt w' r gp gk (R.fail n) ∧ Kp w w' gp gk := by
  have H : Hid (RingAt w r gp gk R) := h
  clear h
  obtain ⟨C, hC⟩ : ∃ C, R.failC n = C := ⟨_, rfl⟩
  have HC : Hid (R.failC n = C) := hC
  have HJ : Hid (C ≠ 0 → R.fail n = R) := fun hc => by unfold Rg.fail; rw [if_neg (by rw [HC.out]; exact hc)]
  rw [hC]
  unfold Rg.failC at hC
  cases hl : R.lives n
  · rw [hl, if_pos (by simp)] at hC
    subst hC
    rw [HJ.out (by omega)]
    have HQ : Hid _ := hl
    clear hl
    go_enter Tryz.func29, Tryz.ntmps29
    go_wp2_with (go_at_call 38; refine (lives_r _ _ _ _ _ _ H.out).mono ?_; rintro e w' ⟨rfl, hb⟩; rw [HQ.out])
    go_ret
    exact ⟨rfl, H.out.below hb, Kp.ofBelow hb⟩
  rw [hl, if_neg (by simp)] at hC
  have HQ : Hid _ := hl
  clear hl
  by_cases q : n < 4
  · rw [if_pos (.inl q)] at hC
    subst hC
    rw [HJ.out (by omega)]
    go_enter Tryz.func29, Tryz.ntmps29
    go_wp2_with (go_at_call 38; refine (lives_r _ _ _ _ _ _ H.out).mono ?_; rintro e w' ⟨rfl, hb⟩; rw [HQ.out])
    go_ret
    exact ⟨rfl, H.out.below hb, Kp.ofBelow hb⟩
  by_cases hd : R.needed n = true
  · rw [if_pos (.inr hd)] at hC
    subst hC
    rw [HJ.out (by omega)]
    have HD : Hid _ := hd
    clear hd
    go_enter Tryz.func29, Tryz.ntmps29
    go_wp2_with (first
      | (go_at_call 38; refine (lives_r _ _ _ _ _ _ H.out).mono ?_; rintro e w1 ⟨rfl, hb1⟩; rw [HQ.out])
      | (go_at_call 66; refine (needed_r _ _ _ _ _ _ (H.out.below hb1)).mono ?_; rintro e w2 ⟨rfl, hb2⟩; rw [HD.out]))
    go_ret
    exact ⟨rfl, (H.out.below hb1).below hb2, (Kp.ofBelow hb1).trans (Kp.ofBelow hb2)⟩
  rw [if_neg (by rintro (h | h); exact q h; exact hd h)] at hC
  subst hC
  have HJ2 : Hid (R.fail n = R.delK n) := by
    show R.fail n = _
    unfold Rg.fail; rw [if_pos HC.out]
  replace hd : R.needed n = false := by simpa using hd
  have HD : Hid _ := hd
  clear hd
  go_enter Tryz.func29, Tryz.ntmps29
  go_wp2_with (go_at_call 38; refine (lives_r _ _ _ _ _ _ H.out).mono ?_; rintro e w1 ⟨rfl, hb1⟩; rw [HQ.out])
  refine (needed_r _ _ _ _ _ _ (H.out.below hb1)).mono ?_
  rintro e w2 ⟨rfl, hb2⟩
  rw [HD.out]
  have H2 : Hid (RingAt w2 r gp gk R ∧ Kp w w2 gp gk) := ⟨(H.out.below hb1).below hb2, (Kp.ofBelow hb1).trans (Kp.ofBelow hb2)⟩
  clear hb1 hb2
  have c1 := H2.out.1.c1
  have z := H2.out.1.lt.1
  obtain ⟨w3, e3, h3, k3⟩ := H2.out.1.del n 0 3
  have H3 : Hid (RingAt w3 r gp gk (R.delK n) ∧ Kp w w3 gp gk) := ⟨h3, H2.out.2.trans k3⟩
  clear h3 k3
  go_wp2
  go_ret
  exact ⟨rfl, by rw [HJ2.out]; exact H3.out.1, H3.out.2⟩
end Go.Proofs.YtgiiadjocfnhlabGreatDoor
