/- For every world of addresses, every peer and every address: who is ahead is told by who says so, when nobody was known or that one is dead; else only by a nearer one.
  The frame is the guide's own shell (proof-skeleton.mjs) at this function; the walk and all ahead of it are mine. -/
import Derived.Test.YthniahbbnknkoaaRows
import Derived.Test.YthniahbbnknkoaaPrAwake
import Derived.Deep.CutBlock
import Derived.Deep.DeepCutAuto
import Derived.Deep.LoopGhost
import Derived.WalkKit
import Derived.WalkLawsBesides
import Derived.ProofKit
import Derived.OpenShut
import Derived.ShutString
import Derived.ChangeOld
import Derived.Below
namespace Go.Proofs.Ythniahbbnknkoaa.peerTold
open Go.ChangeShapes Go.WideShapes Go.ChangeAt Go.RowKit
open Go.ChangeMaps (open_string shut_string)
set_option linter.unusedVariables false

theorem own : ownKnob Try.prog.godebug = none := by kernel_rfl
theorem laidOut : laidOutB Try.prog = true := by kernel_rfl


theorem rect_same {lv : List Bool} {ids : List Int} {id n : Int} : rectI lv ids id n n = n := by unfold rectI; split <;> rfl
/-! ### STEP 1: the walk -/
set_option maxRecDepth 100000 in
set_option maxHeartbeats 2000000 in
theorem walk (a0 : Option Addr) (len0 cap0 : Nat) (lv0 : List Bool) (b0 : Option Addr) (ln0 cp0 : Nat) (ids0 : List Int) (id1 pr1 : Int) (a1 : Option Addr) (len1 cap1 : Nat) (l1 : List Int) (a2 : Int) (w : World) (w0 : LvIn w a0 len0 lv0) (z0 : IdIn w b0 ln0 ids0) (w1 : PeIn w id1 pr1 a1 len1 cap1 l1) (w2 : (Lit.int .i64 a2).wf = true) :
    Calls Try.prog 5 #[.agg #[.slice a0 len0 cap0, .slice b0 ln0 cp0], .agg #[.int .u64 id1, .int .i64 pr1, .slice a1 len1 cap1], .int .i64 a2] w fun e w' => e = .returned (.bool true) ∧ Below w.heap.size w w' := by
  have HV : Hid (LvIn w a0 len0 lv0) := w0
  have HI : Hid (IdIn w b0 ln0 ids0) := z0
  have HP : Hid (PeIn w id1 pr1 a1 len1 cap1 l1) := w1
  have HN : Hid (i64 a2) := bounds_i64 w2
  have hm0 := w0.2.1
  have hm1 := z0.2.1
  obtain ⟨W1, hW1⟩ : ∃ W1, W1 = (w.alloc (.cells #[.slice a0 len0 cap0, .slice b0 ln0 cp0] 25)).alloc (.cells #[.int .u64 id1, .int .i64 pr1, .slice a1 len1 cap1] 30) := ⟨_, rfl⟩
  have b1 : Hid (Below w.heap.size w W1 ∧ W1.heap.size = w.heap.size + 2) := ⟨by rw [hW1]; exact (below_one _ _).trans ((below_one _ _).mono (by simp)), by rw [hW1]; simp⟩
  have HC : Hid (W1.cell? ⟨w.heap.size, 0, none⟩ = some (.slice a0 len0 cap0) ∧ W1.cell? ⟨w.heap.size, 1, none⟩ = some (.slice b0 ln0 cp0) ∧ W1.cell? ⟨w.heap.size + 1, 0, none⟩ = some (.int .u64 id1) ∧ W1.cell? ⟨w.heap.size + 1, 1, none⟩ = some (.int .i64 pr1)) := by
    rw [hW1]; refine ⟨?_, ?_, ?_, ?_⟩ <;> simp
  clear w0 z0 w1 w2
  by_cases q0 : 40 < len0
  · clear hW1
    go_enter Try.func5, Try.ntmps5
    go_wp2_with (go_at_call 7; refine (awake9_any _).mono ?_; rintro e w' ⟨rfl, hb⟩)
    go_ret
    exact ⟨rfl, ((below_one _ _).trans ((below_one _ _).mono (by simp))).trans (hb.mono (by simp; omega))⟩
  by_cases q1 : 40 < ln0
  · clear hW1
    go_enter Try.func5, Try.ntmps5
    go_wp2_with (go_at_call 7; refine (awake9_any _).mono ?_; rintro e w' ⟨rfl, hb⟩)
    go_ret
    exact ⟨rfl, ((below_one _ _).trans ((below_one _ _).mono (by simp))).trans (hb.mono (by simp; omega))⟩
  go_enter Try.func5, Try.ntmps5
  go_wp2_with fail
  rw [← hW1]
  clear hW1
  refine (rectify_any id1 pr1 a2 _ _ _ _ _ _ _ _ _ lv0 ids0 _ (HV.out.below (Nat.le_refl _) b1.out.1) (HI.out.below (Nat.le_refl _) b1.out.1) HP.out.hpred HN.out).mono ?_
  rintro e w2 ⟨rfl, hb⟩
  have B2 : Hid (Below W1.heap.size W1 w2) := hb
  clear hb
  obtain ⟨r, hr⟩ : ∃ r, rectI lv0 ids0 id1 pr1 a2 = r := ⟨_, rfl⟩
  have HR : Hid (rectI lv0 ids0 id1 pr1 a2 = r) := hr
  rw [hr]
  clear hr
  obtain ⟨W3, hW3⟩ : ∃ W3, W3 = w2.alloc (.cells #[.int .u64 id1, .int .i64 r, .slice a1 len1 cap1] 30) := ⟨_, rfl⟩
  have b3 : Hid (Below W1.heap.size W1 W3 ∧ W3.heap.size = w2.heap.size + 1) := ⟨by rw [hW3]; exact B2.out.trans ((below_one _ _).mono B2.out.size), by rw [hW3]; simp⟩
  have x0 := cell_grown HC.out.1 b3.out.1
  have x1 := cell_grown HC.out.2.1 b3.out.1
  have x2 := cell_grown HC.out.2.2.1 b3.out.1
  have x3 := cell_grown HC.out.2.2.2 b3.out.1
  have x4 : W3.cell? ⟨w2.heap.size, 0, none⟩ = some (.int .u64 id1) := by rw [hW3]; simp
  have x5 : W3.cell? ⟨w2.heap.size, 1, none⟩ = some (.int .i64 r) := by rw [hW3]; simp
  have zz : w.heap.size + 1 < w2.heap.size := by have := B2.out.size; have := b1.out.2; omega
  have BW : Hid (Below w.heap.size w W3) := b1.out.1.trans (b3.out.1.mono b1.out.1.size)
  have HV3 : Hid (LvIn W3 a0 len0 lv0 ∧ IdIn W3 b0 ln0 ids0) := ⟨HV.out.below (Nat.le_refl _) BW.out, HI.out.below (Nat.le_refl _) BW.out⟩
  have HPP : Hid (i64 pr1) := HP.out.hpred
  cases hq : livesB lv0 pr1
  · obtain rfl : a2 = r := (rect_dead hq).symm.trans HR.out
    have HQ : Hid _ := hq
    clear hq
    have ee : (a2 == a2) = true := by simp
    have ei : (id1 == id1) = true := by simp
    have X : Hid (W3.cell? ⟨w.heap.size + 1, 0, none⟩ = some (.int .u64 id1) ∧ W3.cell? ⟨w.heap.size + 1, 1, none⟩ = some (.int .i64 pr1) ∧ W3.cell? ⟨w2.heap.size, 0, none⟩ = some (.int .u64 id1) ∧ W3.cell? ⟨w2.heap.size, 1, none⟩ = some (.int .i64 a2)) := ⟨x2, x3, x4, x5⟩
    by_cases hp : pr1 = -1
    · subst hp
      go_upto_region 4 with fail
      rw [← hW3]
      clear hW3
      go_wp2_with (go_at_call 7; refine (awake9_any _).mono ?_; rintro e w' ⟨rfl, hb'⟩; have BY : Hid (Below W3.heap.size W3 w') := hb'; have y2 := cell_grown X.out.1 BY.out; have y3 := cell_grown X.out.2.1 BY.out; have y4 := cell_grown X.out.2.2.1 BY.out; have y5 := cell_grown X.out.2.2.2 BY.out)
      go_ret
      exact ⟨rfl, BW.out.trans (BY.out.mono BW.out.size)⟩
    · have hp1 : (pr1 == -1) = false := by simpa using hp
      go_upto_region 4 with fail
      rw [← hW3]
      clear hW3
      go_wp2_with (first
        | (go_at_call 8; refine (lives_w _ _ _ _ _ _ _ HV3.out.1 HPP.out).mono ?_; rintro e w4 ⟨rfl, hb⟩; rw [HQ.out]; have BL : Hid (Below W3.heap.size W3 w4) := hb)
        | (go_at_call 7; refine (awake9_any _).mono ?_; rintro e w' ⟨rfl, hb'⟩; have BY : Hid (Below W3.heap.size W3 w') := BL.out.trans (hb'.mono BL.out.size); have y2 := cell_grown X.out.1 BY.out; have y3 := cell_grown X.out.2.1 BY.out; have y4 := cell_grown X.out.2.2.1 BY.out; have y5 := cell_grown X.out.2.2.2 BY.out))
      go_ret
      exact ⟨rfl, BW.out.trans (BY.out.mono BW.out.size)⟩
  · have hp1 : ¬ pr1 = -1 := by have := lives_in hq; omega
    have hp2 : (pr1 == -1) = false := by simpa using hp1
    have HQ : Hid _ := hq
    go_upto_region 4 with fail
    rw [← hW3]
    clear hW3
    go_wp2_with (go_at_call 8; refine (lives_w _ _ _ _ _ _ _ HV3.out.1 HPP.out).mono ?_; rintro e w4 ⟨rfl, hb⟩; rw [HQ.out]; have BL : Hid (Below W3.heap.size W3 w4) := hb)
    have X : Hid (w4.cell? ⟨w.heap.size + 1, 0, none⟩ = some (.int .u64 id1) ∧ w4.cell? ⟨w.heap.size + 1, 1, none⟩ = some (.int .i64 pr1) ∧ w4.cell? ⟨w2.heap.size, 0, none⟩ = some (.int .u64 id1) ∧ w4.cell? ⟨w2.heap.size, 1, none⟩ = some (.int .i64 r) ∧ w4.cell? ⟨w.heap.size, 0, none⟩ = some (.slice a0 len0 cap0) ∧ w4.cell? ⟨w.heap.size, 1, none⟩ = some (.slice b0 ln0 cp0)) :=
      ⟨cell_grown x2 BL.out, cell_grown x3 BL.out, cell_grown x4 BL.out, cell_grown x5 BL.out, cell_grown x0 BL.out, cell_grown x1 BL.out⟩
    have A4 : Hid (IdIn w4 b0 ln0 ids0 ∧ i64 pr1 ∧ i64 a2) := ⟨HV3.out.2.below (Nat.le_refl _) BL.out, HPP.out, HN.out⟩
    have B4 : Hid (Below w.heap.size w w4) := BW.out.trans (BL.out.mono BW.out.size)
    clear x0 x1 x2 x3 x4 x5
    obtain ⟨ι, F, _, hF0, hFb, hFc⟩ := grown_fam w4
    have F0 : ∀ i, (F i).cell? ⟨w.heap.size + 1, 0, none⟩ = some (.int .u64 id1) := fun i => cell_grown X.out.1 (hFb i)
    have F1 : ∀ i, (F i).cell? ⟨w.heap.size + 1, 1, none⟩ = some (.int .i64 pr1) := fun i => cell_grown X.out.2.1 (hFb i)
    have F2 : ∀ i, (F i).cell? ⟨w2.heap.size, 0, none⟩ = some (.int .u64 id1) := fun i => cell_grown X.out.2.2.1 (hFb i)
    have F3 : ∀ i, (F i).cell? ⟨w2.heap.size, 1, none⟩ = some (.int .i64 r) := fun i => cell_grown X.out.2.2.2.1 (hFb i)
    have F4 : ∀ i, (F i).cell? ⟨w.heap.size, 0, none⟩ = some (.slice a0 len0 cap0) := fun i => cell_grown X.out.2.2.2.2.1 (hFb i)
    have F5 : ∀ i, (F i).cell? ⟨w.heap.size, 1, none⟩ = some (.slice b0 ln0 cp0) := fun i => cell_grown X.out.2.2.2.2.2 (hFb i)
    have HF : Hid ((∃ i, { w4 with drawn := w4.drawn + 1 } = F i) ∧ (∀ i, Below w4.heap.size w4 (F i)) ∧ (∀ i W, Below w4.heap.size (F i) W → ∃ j, W = F j)) := ⟨hF0, hFb, hFc⟩
    clear hF0 hFb hFc
    by_cases hn : a2 = pr1
    · subst hn
      obtain rfl : a2 = r := rect_same.symm.trans HR.out
      have ee : (a2 == a2) = true := by simp
      have en : (a2 != a2) = false := by simp
      clear hq
      refine wp_region_fam F HF.out.1 (by kernel_rfl) (by kernel_rfl) ?_
      repeat (go_big_quiet_step (first
        | (go_at_call 7; refine (awake9_any _).mono ?_; rintro e' w' ⟨hs, hb⟩; exact ⟨hs, HF.out.2.2 _ _ (hb.mono (HF.out.2.1 _).size)⟩)))
      refine wpQuiet_nil ?_
      rintro _ ⟨i, rfl⟩
      have BF : Hid (Below w.heap.size w (F i)) := B4.out.trans ((HF.out.2.1 i).mono B4.out.size)
      go_wp2
      go_ret
      exact ⟨rfl, BF.out⟩
    · have hn1 : (a2 == pr1) = false := by simpa using hn
      cases ht : (a2 != -1 && withinB (idI ids0 a2) (idI ids0 pr1) id1)
      · obtain rfl : pr1 = r := (rect_no hq ht).symm.trans HR.out
        have ee : (pr1 == a2) = false := by simpa using Ne.symm hn
        have en : (pr1 != a2) = true := by simpa using Ne.symm hn
        have ep : (pr1 == pr1) = true := by simp
        clear hq ht
        refine wp_region_fam F HF.out.1 (by kernel_rfl) (by kernel_rfl) ?_
        repeat (go_big_quiet_step (first
          | (go_at_call 7; refine (awake9_any _).mono ?_; rintro e' w' ⟨hs, hb⟩; exact ⟨hs, HF.out.2.2 _ _ (hb.mono (HF.out.2.1 _).size)⟩)))
        refine wpQuiet_nil ?_
        rintro _ ⟨i, rfl⟩
        have BF : Hid (Below w.heap.size w (F i)) := B4.out.trans ((HF.out.2.1 i).mono B4.out.size)
        go_wp2
        go_ret
        exact ⟨rfl, BF.out⟩
      · obtain rfl : a2 = r := (rect_in ht).symm.trans HR.out
        have HW : Hid (withinB (idI ids0 a2) (idI ids0 pr1) id1 = true) := by simp only [Bool.and_eq_true] at ht; exact ht.2
        have ee : (a2 == a2) = true := by simp
        have en : (a2 != a2) = false := by simp
        clear hq ht
        refine wp_region_fam F HF.out.1 (by kernel_rfl) (by kernel_rfl) ?_
        repeat (go_big_quiet_step (first
          | (go_at_call 7; refine (awake9_any _).mono ?_; rintro e' w' ⟨hs, hb⟩; exact ⟨hs, HF.out.2.2 _ _ (hb.mono (HF.out.2.1 _).size)⟩)
          | (go_at_call 11; refine (id_w _ _ _ _ _ _ _ (A4.out.1.below (Nat.le_refl _) (HF.out.2.1 _)) (by first | exact A4.out.2.1 | exact A4.out.2.2)).mono ?_; rintro e' w' ⟨hs, hb⟩; exact ⟨hs, HF.out.2.2 _ _ (hb.mono (HF.out.2.1 _).size)⟩)
          | (go_at_call 15; refine (within_any _ _ _ _).mono ?_; rintro e' w' ⟨hs, hb⟩; exact ⟨by rw [hs, HW.out], _, hb⟩)))
        refine wpQuiet_nil ?_
        rintro _ ⟨i, rfl⟩
        have BF : Hid (Below w.heap.size w (F i)) := B4.out.trans ((HF.out.2.1 i).mono B4.out.size)
        go_wp2
        go_ret
        exact ⟨rfl, BF.out⟩

/-! ### The row's step -/
set_option maxRecDepth 100000 in
theorem lifted (os : Os) (started : os.Started) (H : Type) (enc : TypeId × Value → H) :
    ReturnsInHanded {} Try.checked os 5 .any (Rows.peerToldSpec.pre6 enc Try.prog Try.f5 Rows.peerToldRow.domain false) (Rows.peerToldSpec.post enc Try.prog Try.f5 false true false false) := by
  refine returnsInHanded_of_change (C := Try.checked) own started (by kernel_rfl) Try.func5
    (ChangeSpec.witness6 (enc := enc) (C := Try.checked) false ⟨#[], #[.agg #[.slice none 0 0, .slice none 0 0], .agg #[.int .u64 0, .int .i64 0, .slice none 0 0], .int .i64 0], []⟩ 8 (by kernel_rfl) (by kernel_rfl) (by kernel_rfl) (by kernel_rfl)) ?_
  intro W base args ds gs before hval0 hW hcnd _
  have hval : ∀ (j : Nat) t v, Try.f5.params[j]? = some t → args[j]? = some v → Value.okWide Try.prog W .any base t v := hval0
  have hW' := hW
  obtain ⟨p, q, hA0, hV, rfl, hfz, hnd⟩ := hW
  have hA : DataW.TrodAll enc Try.prog W 0 (fun _ => true) true Try.f5.params.toList args.toList ds p := hA0
  rw [Try.params5] at hA hval
  obtain ⟨v0, vs0, d0, ds0, p0, q0, hargs, rfl, rfl, h0, r0⟩ := trodAll_cons hA
  obtain ⟨v1, vs1, d1, ds1, p1, q1, rfl, rfl, rfl, h1, r1⟩ := trodAll_cons r0
  obtain ⟨v2, vs2, d2, ds2, p2, q2, rfl, rfl, rfl, h2, r2⟩ := trodAll_cons r1
  obtain ⟨rfl, rfl, rfl⟩ := trodAll_nil r2
  obtain rfl : args = #[v0, v1, v2] := by cases args; simp_all
  obtain ⟨rfl, rfl⟩ := trodVars_none hV
  obtain ⟨cs0, rfl, hcs0⟩ := okWide_struct Try.underlying25 (hval 0 25 v0 rfl rfl)
  have k0 := h0
  have lt0 : ∀ x ∈ p0, x.block < W.heap.size := by obtain ⟨m, hm⟩ := k0; exact DataW.trod_lt m _ _ _ hm
  obtain ⟨fuel0, hf0⟩ := h0
  obtain ⟨a0, len0, cap0, lv0, b0, ln0, cp0, ids0, rfl, w0, z0⟩ := wd_of hcs0 hf0
  obtain ⟨cs1, rfl, hcs1⟩ := okWide_struct Try.underlying30 (hval 1 30 v1 rfl rfl)
  have k1 := h1
  have lt1 : ∀ x ∈ p1, x.block < W.heap.size := by obtain ⟨m, hm⟩ := k1; exact DataW.trod_lt m _ _ _ hm
  obtain ⟨fuel1, hf1⟩ := h1
  obtain ⟨id1, pr1, a1, len1, cap1, l1, rfl, w1⟩ := pe_of hcs1 hf1
  obtain ⟨a2, rfl, rfl, rfl, w2⟩ := open_int Try.underlying3 (hval 2 3 v2 rfl rfl) h2
  clear hA0 hval0
  refine (walk a0 len0 cap0 lv0 b0 ln0 cp0 ids0 id1 pr1 a1 len1 cap1 l1 a2 W w0 z0 w1 w2).mono fun e W' ⟨he, bel⟩ => ?_
  subst he
  exact ⟨_, rfl, _, _, _, [], _, [], hW', trodAll_mk1 (shut_bool Try.underlying4 _), (trodAll_cons_mk (Below.trod laidOut (by kernel_rfl) (of_decide_eq_true (by kernel_rfl)) k0 bel lt0) (trodAll_cons_mk (Below.trod laidOut (by kernel_rfl) (of_decide_eq_true (by kernel_rfl)) k1 bel lt1) (trodAll_cons_mk (shut_int Try.underlying3 w2) trodAll_mk0))), rfl, bel.frame _, fun h => by cases h⟩

theorem over : Rows.peerToldRow.holds Try.pinned (OpenSpec.ofChange Rows.peerToldSpec) :=
  OpenClaim.holds_of_wide 5 Try.f5 rfl rfl rfl rfl rfl rfl rfl ⟨rfl, rfl, rfl, rfl, rfl⟩ rfl rfl rfl rfl rfl (by kernel_rfl) Try.func5 (by kernel_rfl)
    (of_decide_eq_true (by kernel_rfl)) (by unfold Func.isWrapper; first | (rw [if_pos (by decide +kernel)]; kernel_rfl) | (rw [if_neg (by decide +kernel)]; exact ⟨rfl, rfl⟩))
    (fun os started H enc _ => lifted os started H enc)

end Go.Proofs.Ythniahbbnknkoaa.peerTold

namespace Go.Proofs.Ythniahbbnknkoaa
/-- For every world of addresses, every peer and every address: who is ahead is told by who says so, when nobody was known or that one is dead; else only by a nearer one. -/
theorem peerTold_holds : Rows.PeerToldSaid := peerTold.over
#print axioms peerTold_holds
end Go.Proofs.Ythniahbbnknkoaa
