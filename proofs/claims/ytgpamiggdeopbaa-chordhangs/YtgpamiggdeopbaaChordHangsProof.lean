/- For every list of places, every list of calls, every address, place and member: who joins hangs on the ring at once.
  The frame is the guide's own shell (proof-skeleton.mjs) at this function; the walk and all ahead of it are mine. -/
import Derived.Test.YtgpamiggdeopbaaRows
import Derived.Test.YtgpamiggdeopbaaChAct
import Derived.Test.YtgpamiggdeopbaaChReach
import Derived.Test.YtgpamiggdeopbaaChAll
import Derived.Deep.CutBlock
import Derived.Deep.DeepCutAuto
import Derived.Deep.LoopGhost
import Derived.Deep.QuietTactic
import Derived.BigQuiet
import Derived.WalkKit
import Derived.WalkLawsBesides
import Derived.ProofKit
import Derived.OpenShut
import Derived.ShutString
import Derived.ChangeOld
import Derived.Below
namespace Go.Proofs.Ytgpamiggdeopbaa.chordHangs
open Go.ChangeShapes Go.WideShapes Go.ChangeAt Go.RowKit
open Go.ChangeMaps (open_string shut_string)
set_option linter.unusedVariables false

theorem own : ownKnob Try.prog.godebug = none := by kernel_rfl
theorem laidOut : laidOutB Try.prog = true := by kernel_rfl


/-! ### STEP 1: the walk -/
set_option maxRecDepth 100000 in
set_option maxHeartbeats 2000000 in
theorem walk (a0 : Option Addr) (len0 cap0 : Nat) (t0 : List Int) (a1 : Option Addr) (len1 cap1 : Nat) (t1 : List Ac10) (a2 : Int) (a3 : Int) (a4 : Int) (w : World) (w0 : InRow 1 encU Go.Proofs.Ytgpamiggdeopbaa.u64 0 w a0 len0 t0) (w1 : InRow 4 Ac10.cells Ac10.ok ac100 w a1 len1 t1) (w2 : (Lit.int .i64 a2).wf = true) (w3 : (Lit.int .u64 a3).wf = true) (w4 : (Lit.int .i64 a4).wf = true) :
    Calls Try.prog 6 #[.slice a0 len0 cap0, .slice a1 len1 cap1, .int .i64 a2, .int .u64 a3, .int .i64 a4] w fun e w' => e = .returned (.bool true) ∧ Below w.heap.size w w' := by
  have HI : Hid (IdIn w a0 len0 t0) := w0
  have HT : Hid (AcIn w a1 len1 t1) := w1
  have HN2 : Hid (i64 a2 ∧ u64 a3 ∧ i64 a4) := ⟨bounds_i64 w2, bounds_u64 w3, bounds_i64 w4⟩
  have hm1 := w1.2.1
  clear w0 w1 w2 w3 w4
  go_enter Try.func6, Try.ntmps6
  go_wp2_with fail
  refine (new_any a0 len0 cap0 t0 _ HI.out).mono ?_
  rintro e w2 ⟨h2, b2⟩
  rcases h2 with ⟨c, hc, rfl⟩ | ⟨r, gp, gk, R0, rfl, hr, hrr⟩
  · have B2 : Hid (Below w.heap.size w w2) := b2
    clear b2 hc
    go_wp2_with (go_at_call 8; refine (awake10_any _).mono ?_; rintro e w' ⟨rfl, hb⟩)
    go_ret
    exact ⟨rfl, B2.out.trans (hb.mono B2.out.size)⟩
  have H2 : Hid (∃ R, Rn w w2 r gp gk R) := ⟨R0, hr⟩
  clear hr hrr b2
  go_wp2
  go_loopg [13] len1 (fun kx s wr => ∃ k : Nat, s = .int .i64 k ∧ k ≤ len1 ∧ k ≤ 30 ∧ kx = len1 - k ∧ Hid (∃ R, Rn w wr r gp gk R))
  case atStart => exact ⟨0, rfl, Nat.zero_le _, by omega, rfl, H2⟩
  case round =>
    obtain ⟨k, rfl, hk, hk30, rfl, HB⟩ := hrel
    clear H2
    obtain ⟨R, hS⟩ := HB.out
    have HS : Hid (Rn w wr r gp gk R) := hS
    clear hS HB
    by_cases hlt : k < len1 ∧ k < 30
    · obtain ⟨hlt, h30⟩ := hlt
      obtain ⟨b, o, rfl, hbb, hok, x0, x1, x2, x3⟩ := AcIn.at (HT.out.below (Nat.le_refl _) HS.out.bel) hlt
      generalize t1.getD k ac100 = t at hok x0 x1 x2 x3
      obtain ⟨kd, n, via, id⟩ := t
      have HO : Hid (Ac10.ok ⟨kd, n, via, id⟩) := hok
      clear hok
      simp only at x0 x1 x2 x3
      obtain ⟨W3, hW3⟩ : ∃ W3, W3 = wr.alloc (.cells #[.int .i64 kd, .int .i64 n, .int .i64 via, .int .u64 id] 34) := ⟨_, rfl⟩
      have HA : Hid (Rn w W3 r gp gk R) := by rw [hW3]; exact HS.out.below (below_one _ _)
      have y0 : W3.cell? ⟨wr.heap.size, 0, none⟩ = some (.int .i64 kd) := by rw [hW3]; simp
      have y1 : W3.cell? ⟨wr.heap.size, 1, none⟩ = some (.int .i64 n) := by rw [hW3]; simp
      have y2 : W3.cell? ⟨wr.heap.size, 2, none⟩ = some (.int .i64 via) := by rw [hW3]; simp
      have y3 : W3.cell? ⟨wr.heap.size, 3, none⟩ = some (.int .u64 id) := by rw [hW3]; simp
      have zz := cell_block y0
      go_upto_region 8 with fail
      rw [← hW3]
      clear hW3 x0 x1 x2 x3 HS
      by_cases k1 : kd = 1
      · subst k1
        go_wp2_with (go_at_call 10; refine (join_r r gp gk R n id via _ HA.out.ring HO.out.2.2.2 HO.out.2.2.1).mono ?_; rintro e w5 ⟨rfl, h5, k5⟩)
        go_roundg (len1 - (k + 1))
        case measure => omega
        case rel => exact ⟨k + 1, by go_num, by omega, by omega, rfl, ⟨_, HA.out.step h5 (HA.out.inv.join n id via HO.out.2.2.2) k5⟩⟩
      have k1' : (kd == 1) = false := by simpa using k1
      by_cases k2 : kd = 2
      · subst k2
        go_wp2_with (go_at_call 11; refine (fail_r r gp gk R n _ HA.out.ring).mono ?_; rintro e w5 ⟨rfl, h5, k5⟩)
        go_roundg (len1 - (k + 1))
        case measure => omega
        case rel => exact ⟨k + 1, by go_num, by omega, by omega, rfl, ⟨_, HA.out.step h5 (HA.out.inv.fail n) k5⟩⟩
      have k2' : (kd == 2) = false := by simpa using k2
      by_cases k4 : kd = 4
      · subst k4
        go_wp2_with (go_at_call 13; refine (round_r r gp gk R _ HA.out.ring).mono ?_; rintro e w5 ⟨rfl, h5, k5⟩)
        go_roundg (len1 - (k + 1))
        case measure => omega
        case rel => exact ⟨k + 1, by go_num, by omega, by omega, rfl, ⟨_, HA.out.step h5 HA.out.inv.round k5⟩⟩
      have k4' : (kd == 4) = false := by simpa using k4
      go_wp2
      go_roundg (len1 - (k + 1))
      case measure => omega
      case rel => exact ⟨k + 1, by go_num, by omega, by omega, rfl, ⟨_, HA.out⟩⟩
    · have hq2 : k < len1 → ¬ k < 30 := fun h1 h2 => hlt ⟨h1, h2⟩
      clear hlt
      obtain ⟨w4, hw4⟩ : ∃ w4, w4 = wr := ⟨_, rfl⟩
      rw [← hw4] at HS ⊢
      clear hw4
      have hj := HS.out.inv.joins (n := a2) (id := a3) (via := a4) HN2.out.2.1
      have hJ := HS.out.inv.join a2 a3 a4 HN2.out.2.1
      obtain ⟨w5, hw5⟩ : ∃ w5 : World, True := ⟨w4, trivial⟩
      by_cases qc : R.joinC a2 a3 a4 = 0
      · have EV : Hid (errV (R.joinC a2 a3 a4) = .nilIface) := errV_nil qc
        obtain ⟨x, p, j0, j1, j2, j3, j4, j5, j6, j7, j8, j9, j10⟩ := hj qc
        generalize hR' : R.join a2 a3 a4 = R' at hJ j1 j2 j4 j5 j6 j7 j8 j9
        obtain ⟨pid, ppr, psc⟩ := p
        simp only at j1 j3 j7 j8
        have HJ : Hid (Inv R' ∧ R'.kn a2 = some ⟨a3, x, psc⟩ ∧ R'.kn x = some ⟨pid, ppr, psc⟩ ∧ psc.length = 3 ∧ R'.lives a2 = true ∧ R'.lives x = true ∧ R'.head a2 = R'.head x ∧ withinB a3 pid (R'.idOf (R'.head a2)) = true) := ⟨hJ, j1, j2, j3, j4, j5, j6, j8⟩
        have HR : Hid (R.join a2 a3 a4 = R') := hR'
        clear hj hJ qc j0 j1 j2 j3 j4 j5 j6 j7 j8 j10 hR' hw5 w5
        by_cases q3 : k < len1
        all_goals
          first
            | (have q5 : ¬ k < 30 := hq2 q3
               clear hq2
               go_wp2_with fail)
            | (clear hq2
               go_wp2_with fail)
          refine (join_r r gp gk R a2 a3 a4 _ HS.out.ring HN2.out.2.1 HN2.out.2.2).mono ?_
          rintro e w5 ⟨rfl, h5, k5⟩
          rw [EV.out]
          rw [HR.out] at h5
          have H5 : Hid (Rn w w5 r gp gk R') := HS.out.step h5 HJ.out.1 k5
          clear h5 k5
          go_wp2_with fail
          refine (peer_some r gp gk R' a2 _ _ H5.out.ring HJ.out.2.1 (by have := HJ.out.2.2.2.1; simp only; omega)).mono ?_
          rintro e w6 ⟨a6, l6, c6, rfl, h6, b6⟩
          have hl6 : l6 = 3 := h6.row.1.symm.trans HJ.out.2.2.2.1
          subst hl6
          simp only
          have H6 : Hid (Rn w w6 r gp gk R') := H5.out.below b6
          clear h6 b6 H5
          obtain ⟨W7, hW7⟩ : ∃ W7, W7 = w6.alloc (.cells #[.int .u64 a3, .int .i64 x, .slice a6 3 c6] 43) := ⟨_, rfl⟩
          have H7 : Hid (Rn w W7 r gp gk R') := by rw [hW7]; exact H6.out.below (below_one _ _)
          have u0 : W7.cell? ⟨w6.heap.size, 0, none⟩ = some (.int .u64 a3) := by rw [hW7]; simp
          have u1 : W7.cell? ⟨w6.heap.size, 1, none⟩ = some (.int .i64 x) := by rw [hW7]; simp
          have u2 : W7.cell? ⟨w6.heap.size, 2, none⟩ = some (.slice a6 3 c6) := by rw [hW7]; simp
          have uz := cell_block u0
          go_upto_region 18 with fail
          rw [← hW7]
          clear hW7 H6
          go_wp2_with fail
          refine (peer_some r gp gk R' x _ _ H7.out.ring HJ.out.2.2.1 (by have := HJ.out.2.2.2.1; simp only; omega)).mono ?_
          rintro e w8 ⟨a8, l8, c8, rfl, h8, b8⟩
          have hl8 : l8 = 3 := h8.row.1.symm.trans HJ.out.2.2.2.1
          subst hl8
          simp only
          have H8 : Hid (Rn w w8 r gp gk R') := H7.out.below b8
          have v0 := cell_grown u0 b8
          have v1 := cell_grown u1 b8
          have v2 := cell_grown u2 b8
          clear h8 b8 H7 u0 u1 u2 uz
          obtain ⟨W9, hW9⟩ : ∃ W9, W9 = w8.alloc (.cells #[.int .u64 pid, .int .i64 ppr, .slice a8 3 c8] 43) := ⟨_, rfl⟩
          have b9 : Below w8.heap.size w8 W9 := by rw [hW9]; exact below_one _ _
          have H9 : Hid (Rn w W9 r gp gk R') := H8.out.below b9
          have u0 := cell_grown v0 b9
          have u1 := cell_grown v1 b9
          have u2 := cell_grown v2 b9
          have t0 : W9.cell? ⟨w8.heap.size, 0, none⟩ = some (.int .u64 pid) := by rw [hW9]; simp
          have t2 : W9.cell? ⟨w8.heap.size, 2, none⟩ = some (.slice a8 3 c8) := by rw [hW9]; simp
          have uz := cell_block u0
          have tz := cell_block t0
          have en : (a3 != a3) = false := by simp
          clear v0 v1 v2 b9
          go_upto_region 19 with fail
          rw [← hW9]
          clear hW9 H8
          go_wp2_with fail
          refine (head10_r r gp gk R' a2 _ H9.out.ring HJ.out.1 HJ.out.2.2.2.2.1).mono ?_
          rintro e w10 ⟨rfl, b10⟩
          have H10 : Hid (Rn w w10 r gp gk R') := H9.out.below b10
          have v1 := cell_grown u1 b10
          have s0 := cell_grown t0 b10
          have HH : Hid (R'.head x = R'.head a2) := HJ.out.2.2.2.2.2.2.1.symm
          generalize R'.head a2 = hh at j9 HH HJ
          clear u0 u1 u2 t0 t2 uz tz b10 H9 en
          obtain ⟨ι, F, _, hF0, hFb, hFc⟩ := grown_fam w10
          have F1 : ∀ i, (F i).cell? ⟨w6.heap.size, 1, none⟩ = some (.int .i64 x) := fun i => cell_grown v1 (hFb i)
          have F2 : ∀ i, (F i).cell? ⟨w8.heap.size, 0, none⟩ = some (.int .u64 pid) := fun i => cell_grown s0 (hFb i)
          have HF : Hid ((∃ i, { w10 with drawn := w10.drawn + 1 } = F i) ∧ (∀ i, Below w10.heap.size w10 (F i)) ∧ (∀ i W, Below w10.heap.size (F i) W → ∃ j, W = F j)) := ⟨hF0, hFb, hFc⟩
          clear hF0 hFb hFc v1 s0
          go_upto_region 22 with fail
          refine wp_region_fam F HF.out.1 (by kernel_rfl) (by kernel_rfl) ?_
          repeat (go_big_quiet_step (first
            | (go_at_call 8; refine (awake10_any _).mono ?_; rintro e' w' ⟨hs, hb⟩; exact ⟨hs, HF.out.2.2 _ _ (hb.mono (HF.out.2.1 _).size)⟩)
            | (go_at_call 18; refine (head10_r r gp gk R' x _ (H10.out.ring.below (HF.out.2.1 _)) HJ.out.1 HJ.out.2.2.2.2.2.1).mono ?_; rintro e' w' ⟨hs, hb⟩; exact ⟨by rw [hs, HH.out], HF.out.2.2 _ _ (hb.mono (HF.out.2.1 _).size)⟩)
            | (go_at_call 17; refine (id_r r gp gk R' hh _ (H10.out.ring.below (HF.out.2.1 _))).mono ?_; rintro e' w' ⟨hs, hb⟩; exact ⟨hs, HF.out.2.2 _ _ (by rw [hb]; exact Below.refl _ _)⟩)
            | (go_at_call 19; refine (within_any _ _ _ _).mono ?_; rintro e' w' ⟨hs, hb⟩; exact ⟨by rw [hs, HJ.out.2.2.2.2.2.2.2], HF.out.2.2 _ _ (by rw [hb]; exact Below.refl _ _)⟩)
            | (go_at_call 20; refine (reaches_r r gp gk R' a2 _ (H10.out.ring.below (HF.out.2.1 _)) HJ.out.1 HJ.out.2.2.2.2.1).mono ?_; rintro e' w' ⟨hs, hb⟩; exact ⟨hs, HF.out.2.2 _ _ (hb.mono (HF.out.2.1 _).size)⟩)))
          refine wpQuiet_nil ?_
          rintro _ ⟨i, rfl⟩
          have BF := H10.out.bel.trans ((HF.out.2.1 i).mono H10.out.bel.size)
          clear F1 F2
          generalize F i = Wn at BF
          go_wp2
          go_ret
          exact ⟨rfl, BF⟩
      · have EV : Hid (errV (R.joinC a2 a3 a4) = .iface 40 (.int .i64 (R.joinC a2 a3 a4))) := errV_code qc
        clear hj hJ qc hw5 w5
        by_cases q3 : k < len1
        all_goals
          first
            | (have q5 : ¬ k < 30 := hq2 q3
               clear hq2
               go_wp2_with fail)
            | (clear hq2
               go_wp2_with fail)
          refine (join_r r gp gk R a2 a3 a4 _ HS.out.ring HN2.out.2.1 HN2.out.2.2).mono ?_
          rintro e w5 ⟨rfl, h5, k5⟩
          rw [EV.out]
          have B5 : Hid (Below w.heap.size w w5) := HS.out.bel.trans (k5.below HS.out.gp HS.out.gk HS.out.bel.size)
          clear h5 k5
          go_wp2_with (go_at_call 8; refine (awake10_any _).mono ?_; rintro e w' ⟨rfl, hb⟩)
          go_ret
          exact ⟨rfl, B5.out.trans (hb.mono B5.out.size)⟩

/-! ### The row's step -/
set_option maxRecDepth 100000 in
theorem lifted (os : Os) (started : os.Started) (H : Type) (enc : TypeId × Value → H) :
    ReturnsInHanded {} Try.checked os 6 .any (Rows.chordHangsSpec.pre6 enc Try.prog Try.f6 Rows.chordHangsRow.domain false) (Rows.chordHangsSpec.post enc Try.prog Try.f6 false true false false) := by
  refine returnsInHanded_of_change (C := Try.checked) own started (by kernel_rfl) Try.func6
    (ChangeSpec.witness6 (enc := enc) (C := Try.checked) false ⟨#[], #[.slice none 0 0, .slice none 0 0, .int .i64 0, .int .u64 0, .int .i64 0], []⟩ 8 (by kernel_rfl) (by kernel_rfl) (by kernel_rfl) (by kernel_rfl)) ?_
  intro W base args ds gs before hval0 hW hcnd _
  have hval : ∀ (j : Nat) t v, Try.f6.params[j]? = some t → args[j]? = some v → Value.okWide Try.prog W .any base t v := hval0
  have hW' := hW
  obtain ⟨p, q, hA0, hV, rfl, hfz, hnd⟩ := hW
  have hA : DataW.TrodAll enc Try.prog W 0 (fun _ => true) true Try.f6.params.toList args.toList ds p := hA0
  rw [Try.params6] at hA hval
  obtain ⟨v0, vs0, d0, ds0, p0, q0, hargs, rfl, rfl, h0, r0⟩ := trodAll_cons hA
  obtain ⟨v1, vs1, d1, ds1, p1, q1, rfl, rfl, rfl, h1, r1⟩ := trodAll_cons r0
  obtain ⟨v2, vs2, d2, ds2, p2, q2, rfl, rfl, rfl, h2, r2⟩ := trodAll_cons r1
  obtain ⟨v3, vs3, d3, ds3, p3, q3, rfl, rfl, rfl, h3, r3⟩ := trodAll_cons r2
  obtain ⟨v4, vs4, d4, ds4, p4, q4, rfl, rfl, rfl, h4, r4⟩ := trodAll_cons r3
  obtain ⟨rfl, rfl, rfl⟩ := trodAll_nil r4
  obtain rfl : args = #[v0, v1, v2, v3, v4] := by cases args; simp_all
  obtain ⟨rfl, rfl⟩ := trodVars_none hV
  obtain ⟨a0, len0, cap0, rfl⟩ := okWide_slice Try.underlying22 (hval 0 22 v0 rfl rfl)
  have k0 := h0
  have lt0 : ∀ x ∈ p0, x.block < W.heap.size := by obtain ⟨m, hm⟩ := k0; exact DataW.trod_lt m _ _ _ hm
  obtain ⟨t0, w0⟩ : ∃ ts, InRow 1 encU Go.Proofs.Ytgpamiggdeopbaa.u64 0 W a0 len0 ts := by
    obtain ⟨fuel, hf⟩ := h0
    exact inrow_of 1 encU Go.Proofs.Ytgpamiggdeopbaa.u64 0 22 32 Try.underlying22 cellsU1 (by omega) lenU (fun n cs x => uid_of n cs x) hf
  obtain ⟨a1, len1, cap1, rfl⟩ := okWide_slice Try.underlying23 (hval 1 23 v1 rfl rfl)
  have k1 := h1
  have lt1 : ∀ x ∈ p1, x.block < W.heap.size := by obtain ⟨m, hm⟩ := k1; exact DataW.trod_lt m _ _ _ hm
  obtain ⟨t1, w1⟩ : ∃ ts, InRow 4 Ac10.cells Ac10.ok ac100 W a1 len1 ts := by
    obtain ⟨fuel, hf⟩ := h1
    exact inrow_of 4 Ac10.cells Ac10.ok ac100 23 34 Try.underlying23 cellsAc10 (by omega) lenAc10 (fun n cs x => ac10_of n cs x) hf
  obtain ⟨a2, rfl, rfl, rfl, w2⟩ := open_int Try.underlying3 (hval 2 3 v2 rfl rfl) h2
  obtain ⟨a3, rfl, rfl, rfl, w3⟩ := open_int Try.underlying32 (hval 3 32 v3 rfl rfl) h3
  obtain ⟨a4, rfl, rfl, rfl, w4⟩ := open_int Try.underlying3 (hval 4 3 v4 rfl rfl) h4
  clear hA0 hval0
  refine (walk a0 len0 cap0 t0 a1 len1 cap1 t1 a2 a3 a4 W w0 w1 w2 w3 w4).mono fun e W' ⟨he, bel⟩ => ?_
  subst he
  exact ⟨_, rfl, _, _, _, [], _, [], hW', trodAll_mk1 (shut_bool Try.underlying4 _), (trodAll_cons_mk (Below.trod laidOut (by kernel_rfl) (of_decide_eq_true (by kernel_rfl)) k0 bel lt0) (trodAll_cons_mk (Below.trod laidOut (by kernel_rfl) (of_decide_eq_true (by kernel_rfl)) k1 bel lt1) (trodAll_cons_mk (shut_int Try.underlying3 w2) (trodAll_cons_mk (shut_int Try.underlying32 w3) (trodAll_cons_mk (shut_int Try.underlying3 w4) trodAll_mk0))))), rfl, bel.frame _, fun h => by cases h⟩

theorem over : Rows.chordHangsRow.holds Try.pinned (OpenSpec.ofChange Rows.chordHangsSpec) :=
  OpenClaim.holds_of_wide 6 Try.f6 rfl rfl rfl rfl rfl rfl rfl ⟨rfl, rfl, rfl, rfl, rfl⟩ rfl rfl rfl rfl rfl (by kernel_rfl) Try.func6 (by kernel_rfl)
    (of_decide_eq_true (by kernel_rfl)) (by unfold Func.isWrapper; first | (rw [if_pos (by decide +kernel)]; kernel_rfl) | (rw [if_neg (by decide +kernel)]; exact ⟨rfl, rfl⟩))
    (fun os started H enc _ => lifted os started H enc)

end Go.Proofs.Ytgpamiggdeopbaa.chordHangs

namespace Go.Proofs.Ytgpamiggdeopbaa
/-- For every list of places, every list of calls, every address, place and member: who joins hangs on the ring at once. -/
theorem chordHangs_holds : Rows.ChordHangsSaid := chordHangs.over
#print axioms chordHangs_holds
end Go.Proofs.Ytgpamiggdeopbaa
