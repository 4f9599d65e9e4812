/- For every two addresses and every place: a place that one who lives has is nobody else's; when that one goes it is free again, for another address.
  The frame is the guide's own shell (proof-skeleton.mjs) at this function; the walk and all ahead of it are mine. -/
import Derived.Test.YtgpamiggdeopbabRows
import Derived.Test.YtgpamiggdeopbabChFree
import Derived.Test.YtgpamiggdeopbabChAll
import Derived.Test.YtgpamiggdeopbabIsCode
import Derived.WalkKit
import Derived.WalkLawsBesides
import Derived.ProofKit
import Derived.OpenShut
import Derived.ShutString
namespace Go.Proofs.Ytgpamiggdeopbab.chordTaken
open Go.ChangeShapes Go.WideShapes Go.ChangeAt Go.RowKit
open Go.ChangeMaps (open_string shut_string)
set_option linter.unusedVariables false      -- a walk need not use every 'w<i>' (that an integer argument fits its kind)

theorem own : ownKnob Try.prog.godebug = none := by kernel_rfl


/-! ### STEP 1: THE WALK: the Go text returns true. 'Grown w w'': the world has at most new blocks (Derived/RowKit3.lean). Part the cases AHEAD of 'go_enter' where a test parts the walk; take each callee by a contract of your own. -/
set_option maxRecDepth 100000 in
set_option maxHeartbeats 2000000 in
theorem walk (a0 : Int) (a1 : Int) (a2 : Int) (w0 : (Lit.int .i64 a0).wf = true) (w1 : (Lit.int .i64 a1).wf = true) (w2 : (Lit.int .u64 a2).wf = true) (w : World) :
    Calls Try.prog 3 #[.int .i64 a0, .int .i64 a1, .int .u64 a2] w fun e w' => e = .returned (.bool true) ∧ Below w.heap.size w w' := by
  have HN : Hid (i64 a0 ∧ i64 a1 ∧ u64 a2) := ⟨bounds_i64 w0, bounds_i64 w1, bounds_u64 w2⟩
  clear w0 w1 w2
  go_enter Try.func3, Try.ntmps3
  go_wp2_with fail
  refine (base_r w).mono ?_
  rintro e w1 ⟨rfl, h1, b1⟩
  go_wp2_with fail
  refine (new_base _ _ _ h1).mono ?_
  rintro e w2 ⟨r, gp, gk, rfl, hr, l1, l2, l3, b2⟩
  have H2 : Hid (Rn w w2 r gp gk ringA) := ⟨hr, ringA_inv, b1.trans (b2.mono b1.size), Nat.le_trans b1.size l2, Nat.le_trans b1.size l3⟩
  clear h1 b1 hr l1 l2 l3 b2
  by_cases q : 4 ≤ a0 ∧ a0 ≤ 31 ∧ 4 ≤ a1 ∧ a1 ≤ 31 ∧ a0 ≠ a1
  · obtain ⟨q0, q1, q2, q3, q4⟩ := q
    have tc := taken_calls (n := a0) (m := a1) (id := a2) q0 (by omega) q2 (by omega) q4 HN.out.2.2
    have eq4 : (a0 == a1) = false := by simpa using q4
    have g0 : ¬ a0 < 4 := by omega
    have g1 : ¬ 31 < a0 := by omega
    have g2 : ¬ a1 < 4 := by omega
    have g3 : ¬ 31 < a1 := by omega
    clear q0 q1 q2 q3 q4
    rcases tc with ⟨t1, t2⟩ | ⟨t1, t2, t3, t4, t5, t6⟩
    · have E1 : Hid (errV (ringA.joinC a0 a2 0) = .iface 34 (.int .i64 8)) := by show errV _ = _; rw [t1]; rfl
      have E2 : Hid (errV ((ringA.join a0 a2 0).joinC a1 a2 1) = .iface 34 (.int .i64 8)) := by show errV _ = _; rw [t2]; rfl
      clear t1 t2
      go_wp2_with fail
      refine (join_r r gp gk ringA a0 a2 0 _ H2.out.ring HN.out.2.2 (by simp [i64])).mono ?_
      rintro e w3 ⟨rfl, h3, k3⟩
      rw [E1.out]
      have H3 : Hid (Rn w w3 r gp gk (ringA.join a0 a2 0)) := H2.out.step h3 (H2.out.inv.join _ _ _ HN.out.2.2) k3
      clear h3 k3
      go_wp2_with fail
      refine (join_r r gp gk _ a1 a2 1 _ H3.out.ring HN.out.2.2 (by simp [i64])).mono ?_
      rintro e w4 ⟨rfl, h4, k4⟩
      rw [E2.out]
      have H4 : Hid (Rn w w4 r gp gk ((ringA.join a0 a2 0).join a1 a2 1)) := H3.out.step h4 (H3.out.inv.join _ _ _ HN.out.2.2) k4
      clear h4 k4
      go_wp2_with (first
        | (go_at_call 7; refine (awake10_any _).mono ?_; rintro e w5 ⟨rfl, b5⟩)
        | (go_at_call 9; refine (is_code _ _).mono ?_; rintro e w' ⟨rfl, rfl⟩))
      go_ret
      exact ⟨rfl, H4.out.bel.trans (b5.mono H4.out.bel.size)⟩
    · have E1 : Hid (errV (ringA.joinC a0 a2 0) = .nilIface) := errV_nil t1
      have E2 : Hid (errV ((ringA.join a0 a2 0).joinC a1 a2 1) = .iface 34 (.int .i64 8)) := by show errV _ = _; rw [t2]; rfl
      obtain ⟨R1, hR1⟩ : ∃ R1, R1 = ringA.join a0 a2 0 := ⟨_, rfl⟩
      rw [← hR1] at t2 t3 t4 t5 t6 E2
      have HR1 : Hid (R1 = ringA.join a0 a2 0) := hR1
      obtain ⟨R2, hR2⟩ : ∃ R2, R2 = (R1.join a1 a2 1).round := ⟨_, rfl⟩
      rw [← hR2] at t3 t4 t5 t6
      have HR2 : Hid (R2 = (R1.join a1 a2 1).round) := hR2
      obtain ⟨R3, hR3⟩ : ∃ R3, R3 = (R2.fail a0).round := ⟨_, rfl⟩
      rw [← hR3] at t4 t5 t6
      have HR3 : Hid (R3 = (R2.fail a0).round) := hR3
      obtain ⟨R4, hR4⟩ : ∃ R4, R4 = R3.join a1 a2 2 := ⟨_, rfl⟩
      rw [← hR4] at t5 t6
      have HR4 : Hid (R4 = R3.join a1 a2 2) := hR4
      have E3 : Hid (errV (R2.failC a0) = .nilIface) := errV_nil t3
      have E4 : Hid (errV (R3.joinC a1 a2 2) = .nilIface) := errV_nil t4
      have HL : Hid (R4.lives a1 = true ∧ R4.lives a0 = false) := ⟨t5, t6⟩
      clear t1 t2 t3 t4 t5 t6 hR1 hR2 hR3 hR4
      go_wp2_with fail
      refine (join_r r gp gk ringA a0 a2 0 _ H2.out.ring HN.out.2.2 (by simp [i64])).mono ?_
      rintro e w3 ⟨rfl, h3, k3⟩
      rw [E1.out]
      have H3 : Hid (Rn w w3 r gp gk R1) := by rw [HR1.out]; exact H2.out.step h3 (H2.out.inv.join _ _ _ HN.out.2.2) k3
      clear h3 k3
      go_wp2_with fail
      refine (join_r r gp gk _ a1 a2 1 _ H3.out.ring HN.out.2.2 (by simp [i64])).mono ?_
      rintro e w4 ⟨rfl, h4, k4⟩
      rw [E2.out]
      have H4 : Hid (Rn w w4 r gp gk (R1.join a1 a2 1)) := H3.out.step h4 (H3.out.inv.join _ _ _ HN.out.2.2) k4
      clear h4 k4
      go_wp2_with fail
      refine (round_r r gp gk _ _ H4.out.ring).mono ?_
      rintro e w5 ⟨rfl, h5, k5⟩
      have H5 : Hid (Rn w w5 r gp gk R2) := by rw [HR2.out]; exact H4.out.step h5 H4.out.inv.round k5
      clear h5 k5
      go_wp2_with fail
      refine (fail_r r gp gk _ a0 _ H5.out.ring).mono ?_
      rintro e w6 ⟨rfl, h6, k6⟩
      rw [E3.out]
      have H6 : Hid (Rn w w6 r gp gk (R2.fail a0)) := H5.out.step h6 (H5.out.inv.fail _) k6
      clear h6 k6
      go_wp2_with fail
      refine (round_r r gp gk _ _ H6.out.ring).mono ?_
      rintro e w7 ⟨rfl, h7, k7⟩
      have H7 : Hid (Rn w w7 r gp gk R3) := by rw [HR3.out]; exact H6.out.step h7 H6.out.inv.round k7
      clear h7 k7
      go_wp2_with fail
      refine (join_r r gp gk _ a1 a2 2 _ H7.out.ring HN.out.2.2 (by simp [i64])).mono ?_
      rintro e w8 ⟨rfl, h8, k8⟩
      rw [E4.out]
      have H8 : Hid (Rn w w8 r gp gk R4) := by rw [HR4.out]; exact H7.out.step h8 (H7.out.inv.join _ _ _ HN.out.2.2) k8
      clear h8 k8
      go_wp2_with fail
      refine (awake10_any _).mono ?_
      rintro e w9 ⟨rfl, b9⟩
      have H9 : Hid (Rn w w9 r gp gk R4) := H8.out.below b9
      clear b9
      go_wp2_with fail
      refine (is_code _ _).mono ?_
      rintro e w' ⟨rfl, rfl⟩
      go_wp2_with fail
      refine (lives_r r gp gk R4 _ _ H9.out.ring).mono ?_
      rintro e w10 ⟨rfl, b10⟩
      rw [HL.out.1]
      have H10 : Hid (Rn w w10 r gp gk R4) := H9.out.below b10
      clear b10
      go_wp2_with fail
      refine (lives_r r gp gk R4 _ _ H10.out.ring).mono ?_
      rintro e w11 ⟨rfl, b11⟩
      rw [HL.out.2]
      have H11 : Hid (Rn w w11 r gp gk R4) := H10.out.below b11
      clear b11
      go_wp2
      go_ret
      exact ⟨rfl, H11.out.bel⟩
  · have HQ : Hid (¬ (4 ≤ a0 ∧ a0 ≤ 31 ∧ 4 ≤ a1 ∧ a1 ≤ 31 ∧ a0 ≠ a1)) := q
    have qq : a0 < 4 ∨ (¬ a0 < 4 ∧ 31 < a0) ∨ (¬ a0 < 4 ∧ ¬ 31 < a0 ∧ a1 < 4) ∨ (¬ a0 < 4 ∧ ¬ 31 < a0 ∧ ¬ a1 < 4 ∧ 31 < a1) ∨ (¬ a0 < 4 ∧ ¬ 31 < a0 ∧ ¬ a1 < 4 ∧ ¬ 31 < a1 ∧ a0 = a1) := by omega
    clear q
    rcases qq with g0 | ⟨g0, g1⟩ | ⟨g0, g1, g2⟩ | ⟨g0, g1, g2, g3⟩ | ⟨g0, g1, g2, g3, g4⟩
    all_goals
      first
        | (have eq4 : (a0 == a1) = true := by simpa using g4
           clear g4)
        | skip
      go_wp2_with (go_at_call 7; refine (awake10_any _).mono ?_; rintro e w5 ⟨rfl, b5⟩)
      go_ret
      exact ⟨rfl, H2.out.bel.trans (b5.mono H2.out.bel.size)⟩

/-! ### THE ROW's STEP: WRITTEN OUT: LEAVE IT -/
set_option maxRecDepth 100000 in
theorem lifted (os : Os) (started : os.Started) (H : Type) (enc : TypeId × Value → H) :
    ReturnsInHanded {} Try.checked os 3 .any (Rows.chordTakenSpec.pre6 enc Try.prog Try.f3 Rows.chordTakenRow.domain false) (Rows.chordTakenSpec.post enc Try.prog Try.f3 false true false false) := by
  refine returnsInHanded_of_change (C := Try.checked) own started (by kernel_rfl) Try.func3
    (ChangeSpec.witness6 (enc := enc) (C := Try.checked) false ⟨#[], #[.int .i64 0, .int .i64 0, .int .u64 0], []⟩ 8 (by kernel_rfl) (by kernel_rfl) (by kernel_rfl) (by kernel_rfl)) ?_
  intro W base args ds gs before hval0 hW hcnd _
  have hval : ∀ (j : Nat) t v, Try.f3.params[j]? = some t → args[j]? = some v → Value.okWide Try.prog W .any base t v := hval0
  have hW' := hW
  obtain ⟨p, q, hA0, hV, rfl, hfz, hnd⟩ := hW
  have hA : DataW.TrodAll enc Try.prog W 0 (fun _ => true) true Try.f3.params.toList args.toList ds p := hA0
  rw [Try.params3] at hA hval
  obtain ⟨v0, vs0, d0, ds0, p0, q0, hargs, rfl, rfl, h0, r0⟩ := trodAll_cons hA
  obtain ⟨v1, vs1, d1, ds1, p1, q1, rfl, rfl, rfl, h1, r1⟩ := trodAll_cons r0
  obtain ⟨v2, vs2, d2, ds2, p2, q2, rfl, rfl, rfl, h2, r2⟩ := trodAll_cons r1
  obtain ⟨rfl, rfl, rfl⟩ := trodAll_nil r2
  obtain rfl : args = #[v0, v1, v2] := by cases args; simp_all
  obtain ⟨rfl, rfl⟩ := trodVars_none hV
  obtain ⟨a0, rfl, rfl, rfl, w0⟩ := open_int Try.underlying3 (hval 0 3 v0 rfl rfl) h0
  obtain ⟨a1, rfl, rfl, rfl, w1⟩ := open_int Try.underlying3 (hval 1 3 v1 rfl rfl) h1
  obtain ⟨a2, rfl, rfl, rfl, w2⟩ := open_int Try.underlying23 (hval 2 23 v2 rfl rfl) h2
  clear hA0 hval0
  simp only [List.append_nil] at hW'
  refine (walk a0 a1 a2 w0 w1 w2 W).mono fun e W' ⟨he, bel⟩ => ?_
  subst he
  exact ⟨_, rfl, _, _, _, [], [], [], hW', trodAll_mk1 (shut_bool Try.underlying4 _), (trodAll_cons_mk (shut_int Try.underlying3 w0) (trodAll_cons_mk (shut_int Try.underlying3 w1) (trodAll_cons_mk (shut_int Try.underlying23 w2) trodAll_mk0))), rfl, bel.frame _, fun h => by cases h⟩

theorem over : Rows.chordTakenRow.holds Try.pinned (OpenSpec.ofChange Rows.chordTakenSpec) :=
  OpenClaim.holds_of_wide 3 Try.f3 rfl rfl rfl rfl rfl rfl rfl ⟨rfl, rfl, rfl, rfl, rfl⟩ rfl rfl rfl rfl rfl (by kernel_rfl) Try.func3 (by kernel_rfl)
    (of_decide_eq_true (by kernel_rfl)) (by unfold Func.isWrapper; first | (rw [if_pos (by decide +kernel)]; kernel_rfl) | (rw [if_neg (by decide +kernel)]; exact ⟨rfl, rfl⟩))
    (fun os started H enc _ => lifted os started H enc)

end Go.Proofs.Ytgpamiggdeopbab.chordTaken

namespace Go.Proofs.Ytgpamiggdeopbab
/-- For every two addresses and every place: a place that one who lives has is nobody else's; when that one goes it is free again, for another address. -/
theorem chordTaken_holds : Rows.ChordTakenSaid := chordTaken.over
#print axioms chordTaken_holds
end Go.Proofs.Ytgpamiggdeopbab
