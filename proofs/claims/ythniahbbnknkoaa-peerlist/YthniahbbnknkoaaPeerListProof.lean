/- For every world of addresses, every address and every peer: a list that follows a live one has that first, is never longer than it may be, and its head is that one.
  The frame is the guide's own shell (proof-skeleton.mjs) at this function; the walk and all ahead of it are mine. -/
import Derived.Test.YthniahbbnknkoaaRows
import Derived.Test.YthniahbbnknkoaaPrAwake
import Derived.Deep.CutBlock
import Derived.Deep.DeepCutAuto
import Derived.Deep.LoopGhost
import Derived.WalkKit
import Derived.WalkLawsBesides
import Derived.ProofKit
import Derived.OpenShut
import Derived.ShutString
import Derived.ChangeOld
import Derived.Below
namespace Go.Proofs.Ythniahbbnknkoaa.peerList
open Go.ChangeShapes Go.WideShapes Go.ChangeAt Go.RowKit
open Go.ChangeMaps (open_string shut_string)
set_option linter.unusedVariables false

theorem own : ownKnob Try.prog.godebug = none := by kernel_rfl
theorem laidOut : laidOutB Try.prog = true := by kernel_rfl


/-! ### STEP 1: the walk -/
set_option maxRecDepth 100000 in
set_option maxHeartbeats 2000000 in
theorem walk (a0 : Option Addr) (len0 cap0 : Nat) (lv0 : List Bool) (b0 : Option Addr) (ln0 cp0 : Nat) (ids0 : List Int) (a1 : Int) (id2 pr2 : Int) (a2 : Option Addr) (len2 cap2 : Nat) (l2 : List Int) (w : World) (w0 : LvIn w a0 len0 lv0) (z0 : IdIn w b0 ln0 ids0) (w1 : (Lit.int .i64 a1).wf = true) (w2 : PeIn w id2 pr2 a2 len2 cap2 l2) :
    Calls Try.prog 4 #[.agg #[.slice a0 len0 cap0, .slice b0 ln0 cp0], .int .i64 a1, .agg #[.int .u64 id2, .int .i64 pr2, .slice a2 len2 cap2]] w fun e w' => e = .returned (.bool true) ∧ Below w.heap.size w w' := by
  have HV : Hid (LvIn w a0 len0 lv0) := w0
  have HN : Hid (i64 a1) := bounds_i64 w1
  have HP : Hid (PeIn w id2 pr2 a2 len2 cap2 l2) := w2
  have hm0 := w0.2.1
  obtain ⟨W1, hW1⟩ : ∃ W1, W1 = (w.alloc (.cells #[.slice a0 len0 cap0, .slice b0 ln0 cp0] 25)).alloc (.cells #[.int .u64 id2, .int .i64 pr2, .slice a2 len2 cap2] 30) := ⟨_, rfl⟩
  have b1 : Hid (Below w.heap.size w W1 ∧ W1.heap.size = w.heap.size + 2) := ⟨by rw [hW1]; exact (below_one _ _).trans ((below_one _ _).mono (by simp)), by rw [hW1]; simp⟩
  have HC : Hid (W1.cell? ⟨w.heap.size, 0, none⟩ = some (.slice a0 len0 cap0) ∧ W1.cell? ⟨w.heap.size, 1, none⟩ = some (.slice b0 ln0 cp0) ∧ (W1.cell? ⟨w.heap.size + 1, 0, none⟩ = some (.int .u64 id2) ∧ W1.cell? ⟨w.heap.size + 1, 1, none⟩ = some (.int .i64 pr2) ∧ W1.cell? ⟨w.heap.size + 1, 2, none⟩ = some (.slice a2 len2 cap2)) ∧ ∀ o, W1.frozen? ⟨w.heap.size + 1, o, none⟩ = false) := by
    rw [hW1]; refine ⟨?_, ?_, ⟨?_, ?_, ?_⟩, fun o => ?_⟩ <;> simp
  clear w0 z0 w1 w2
  go_enter Try.func4, Try.ntmps4
  go_wp2_with fail
  rw [← hW1]
  clear hW1
  refine (cut9_any id2 pr2 a2 len2 cap2 l2 _ (HP.out.below (Nat.le_refl _) b1.out.1)).mono ?_
  rintro e w2 ⟨a3, c3, rfl, hp3, hfr, hb⟩
  have B2 : Hid (Below W1.heap.size W1 w2) := hb
  have x0 := cell_grown HC.out.1 hb
  have x1 := cell_grown HC.out.2.1 hb
  have x2 := cell_grown HC.out.2.2.1.1 hb
  have x3 := cell_grown HC.out.2.2.1.2.1 hb
  have x4 := cell_grown HC.out.2.2.1.2.2 hb
  have zz : w.heap.size + 1 < w2.heap.size := by have := B2.out.size; have := b1.out.2; omega
  have kk : ∀ o, w2.frozen? ⟨w.heap.size + 1, o, none⟩ = false := fun o => (hb.frozen (p := ⟨w.heap.size + 1, o, none⟩) (by have := b1.out.2; show w.heap.size + 1 < _; omega)).trans (HC.out.2.2.2 o)
  have HP3 : Hid (PeIn w2 id2 pr2 a3 (min len2 8) c3 (l2.take 8)) := hp3
  obtain ⟨m, hm⟩ : ∃ m, m = min len2 8 := ⟨_, rfl⟩
  rw [← hm] at HP3 ⊢
  clear hb hp3 hm
  obtain ⟨W3, hW3⟩ : ∃ W3, W3 = ((w2.setCell ⟨w.heap.size + 1, 0, none⟩ (.int .u64 id2)).setCell ⟨w.heap.size + 1, 1, none⟩ (.int .i64 pr2)).setCell ⟨w.heap.size + 1, 2, none⟩ (.slice a3 m c3) := ⟨_, rfl⟩
  have hfr' : ∀ x, a3 = some x → w.heap.size + 2 ≤ x.block := fun x hx => by have := hfr x hx; have := b1.out.2; omega
  have k0 : W3.cell? ⟨w.heap.size, 0, none⟩ = some (.slice a0 len0 cap0) := by rw [hW3, cell_far (by simp), cell_far (by simp), cell_far (by simp)]; exact x0
  have k1 : W3.cell? ⟨w.heap.size, 1, none⟩ = some (.slice b0 ln0 cp0) := by rw [hW3, cell_far (by simp), cell_far (by simp), cell_far (by simp)]; exact x1
  have k2 : W3.cell? ⟨w.heap.size + 1, 0, none⟩ = some (.int .u64 id2) := by rw [hW3]; simp [go_sem, x2]
  have k3 : W3.cell? ⟨w.heap.size + 1, 1, none⟩ = some (.int .i64 pr2) := by rw [hW3]; simp [go_sem, x3]
  have k4 : W3.cell? ⟨w.heap.size + 1, 2, none⟩ = some (.slice a3 m c3) := by rw [hW3]; simp [go_sem, x4]
  have BW : Hid (Below w.heap.size w W3) := by rw [hW3]; exact (((b1.out.1.trans (B2.out.mono b1.out.1.size)).setCell (by simp) _).setCell (by simp) _).setCell (by simp) _
  have HR3 : Hid (InIn W3 a3 m (l2.take 8)) := by
    have h := HP3.out.row
    refine ⟨h.1, h.2.1, ?_⟩
    rcases h.2.2 with h0 | ⟨b, o, ha, hlt, hc⟩
    · exact .inl h0
    · refine .inr ⟨b, o, ha, by rw [hW3]; simpa [World.setCell] using hlt, fun i hi => ⟨(hc i hi).1, fun j hj => ?_⟩⟩
      have hb := hfr' _ ha
      have hb : w.heap.size + 1 ≠ b := by simp at hb; omega
      rw [hW3, cell_far hb, cell_far hb, cell_far hb]
      exact (hc i hi).2 j hj
  have hcap3 := HP3.out.hcap
  have hmost3 := HP3.out.hmost
  have hnil3 : Hid (a3 = none → m = 0) := HP3.out.hnil
  have hs3 : w.heap.size + 1 < W3.heap.size := by rw [hW3]; simpa [World.setCell] using zz
  have HV3 : Hid (LvIn W3 a0 len0 lv0) := HV.out.below (Nat.le_refl _) BW.out
  go_upto_region 2 with fail
  rw [← hW3]
  clear hW3 x0 x1 x2 x3 x4 kk zz
  by_cases q0 : 40 < len0
  · go_wp2_with (go_at_call 7; refine (awake9_any _).mono ?_; rintro e w' ⟨rfl, hb⟩)
    go_ret
    exact ⟨rfl, BW.out.trans (hb.mono BW.out.size)⟩
  cases hq : livesB lv0 a1
  · have HQ : Hid _ := hq
    clear hq
    go_wp2_with (first
      | (go_at_call 8; refine (lives_w _ _ _ _ _ _ _ HV3.out HN.out).mono ?_; rintro e w4 ⟨rfl, hb4⟩; rw [HQ.out])
      | (go_at_call 7; refine (awake9_any _).mono ?_; rintro e w' ⟨rfl, hb⟩))
    go_ret
    exact ⟨rfl, BW.out.trans ((hb4.trans (hb.mono hb4.size)).mono BW.out.size)⟩
  · have HQ : Hid _ := hq
    have HH : Hid (headI lv0 (a1 :: (l2.take 8).take 2) = a1) := by show headI lv0 (a1 :: (l2.take 8).take 2) = a1; simp [headI, hq]
    clear hq
    obtain ⟨mm, hmm⟩ : ∃ mm, mm = 1 + min m 2 := ⟨_, rfl⟩
    have hm1 : 1 ≤ mm := by omega
    have hm3 : mm ≤ 3 := by omega
    have hmp : 0 < mm := by omega
    have HM : Hid (1 + min m 2 = mm) := hmm.symm
    clear hmm
    go_wp2_with (go_at_call 8; refine (lives_w _ _ _ _ _ _ _ HV3.out HN.out).mono ?_; rintro e w4 ⟨rfl, hb4⟩; rw [HQ.out]; have B4 : Hid (Below W3.heap.size W3 w4) := hb4; have y0 := cell_grown k0 hb4; have y1 := cell_grown k1 hb4; have y2 := cell_grown k2 hb4; have y3 := cell_grown k3 hb4; have y4 := cell_grown k4 hb4; have zz : w.heap.size + 1 < w4.heap.size := by { have := hb4.size; omega }; clear hb4 k0 k1 k2 k3 k4)
    refine (follow_any a1 _ _ a3 m c3 (l2.take 8) _ HN.out (HR3.out.below (Nat.le_refl _) B4.out) hcap3 hmost3 hnil3.out).mono ?_
    rintro e w5 ⟨a5, c5, rfl, h5, hc5, hd5, _, hb5⟩
    rw [HM.out] at h5 hc5 ⊢
    have B5 : Hid (Below W3.heap.size W3 w5) := B4.out.trans (hb5.mono B4.out.size)
    have H5 : Hid (InIn w5 a5 mm (a1 :: (l2.take 8).take 2)) := h5
    have y0 := cell_grown y0 hb5
    have y1 := cell_grown y1 hb5
    have zz : w.heap.size + 1 < w5.heap.size := by have := hb5.size; omega
    clear h5 hb5
    obtain ⟨bb, oo, rfl, hbb, _, hcc⟩ := H5.out.one (v := Value.int .i64) (fun _ => rfl) (i := 0) hmp
    have hcc' : w5.cell? ⟨bb, oo, none⟩ = some (.int .i64 a1) := by simpa using hcc
    clear hcc
    have ee : (a1 == a1) = true := by simp
    go_wp2_with (first
      | (go_at_call 7; refine (awake9_any _).mono ?_; rintro e w6 ⟨rfl, hb6⟩; have B6 : Hid (Below W3.heap.size W3 w6) := B5.out.trans (hb6.mono B5.out.size); have H6 : Hid (InIn w6 (some ⟨bb, oo, none⟩) mm (a1 :: (l2.take 8).take 2)) := H5.out.below (Nat.le_refl _) hb6; have y0 := cell_grown y0 hb6; have y1 := cell_grown y1 hb6; have hcc' := cell_grown hcc' hb6; have hbb : bb < w6.heap.size := by { have := hb6.size; omega }; have zz : w.heap.size + 1 < w6.heap.size := by { have := hb6.size; omega }; clear hb6)
      | (go_at_call 14; refine (head_any _ _ _ _ _ _ _ _ _ _ lv0 _ H6.out (HV3.out.below (Nat.le_refl _) B6.out)).mono ?_; rintro e w7 ⟨rfl, hb7⟩; rw [HH.out]))
    go_ret
    exact ⟨rfl, BW.out.trans ((B6.out.trans (hb7.mono B6.out.size)).mono BW.out.size)⟩

/-! ### The row's step -/
set_option maxRecDepth 100000 in
theorem lifted (os : Os) (started : os.Started) (H : Type) (enc : TypeId × Value → H) :
    ReturnsInHanded {} Try.checked os 4 .any (Rows.peerListSpec.pre6 enc Try.prog Try.f4 Rows.peerListRow.domain false) (Rows.peerListSpec.post enc Try.prog Try.f4 false true false false) := by
  refine returnsInHanded_of_change (C := Try.checked) own started (by kernel_rfl) Try.func4
    (ChangeSpec.witness6 (enc := enc) (C := Try.checked) false ⟨#[], #[.agg #[.slice none 0 0, .slice none 0 0], .int .i64 0, .agg #[.int .u64 0, .int .i64 0, .slice none 0 0]], []⟩ 8 (by kernel_rfl) (by kernel_rfl) (by kernel_rfl) (by kernel_rfl)) ?_
  intro W base args ds gs before hval0 hW hcnd _
  have hval : ∀ (j : Nat) t v, Try.f4.params[j]? = some t → args[j]? = some v → Value.okWide Try.prog W .any base t v := hval0
  have hW' := hW
  obtain ⟨p, q, hA0, hV, rfl, hfz, hnd⟩ := hW
  have hA : DataW.TrodAll enc Try.prog W 0 (fun _ => true) true Try.f4.params.toList args.toList ds p := hA0
  rw [Try.params4] at hA hval
  obtain ⟨v0, vs0, d0, ds0, p0, q0, hargs, rfl, rfl, h0, r0⟩ := trodAll_cons hA
  obtain ⟨v1, vs1, d1, ds1, p1, q1, rfl, rfl, rfl, h1, r1⟩ := trodAll_cons r0
  obtain ⟨v2, vs2, d2, ds2, p2, q2, rfl, rfl, rfl, h2, r2⟩ := trodAll_cons r1
  obtain ⟨rfl, rfl, rfl⟩ := trodAll_nil r2
  obtain rfl : args = #[v0, v1, v2] := by cases args; simp_all
  obtain ⟨rfl, rfl⟩ := trodVars_none hV
  obtain ⟨cs0, rfl, hcs0⟩ := okWide_struct Try.underlying25 (hval 0 25 v0 rfl rfl)
  have k0 := h0
  have lt0 : ∀ x ∈ p0, x.block < W.heap.size := by obtain ⟨m, hm⟩ := k0; exact DataW.trod_lt m _ _ _ hm
  obtain ⟨fuel0, hf0⟩ := h0
  obtain ⟨a0, len0, cap0, lv0, b0, ln0, cp0, ids0, rfl, w0, z0⟩ := wd_of hcs0 hf0
  obtain ⟨a1, rfl, rfl, rfl, w1⟩ := open_int Try.underlying3 (hval 1 3 v1 rfl rfl) h1
  obtain ⟨cs2, rfl, hcs2⟩ := okWide_struct Try.underlying30 (hval 2 30 v2 rfl rfl)
  have k2 := h2
  have lt2 : ∀ x ∈ p2, x.block < W.heap.size := by obtain ⟨m, hm⟩ := k2; exact DataW.trod_lt m _ _ _ hm
  obtain ⟨fuel2, hf2⟩ := h2
  obtain ⟨id2, pr2, a2, len2, cap2, l2, rfl, w2⟩ := pe_of hcs2 hf2
  clear hA0 hval0
  refine (walk a0 len0 cap0 lv0 b0 ln0 cp0 ids0 a1 id2 pr2 a2 len2 cap2 l2 W w0 z0 w1 w2).mono fun e W' ⟨he, bel⟩ => ?_
  subst he
  exact ⟨_, rfl, _, _, _, [], _, [], hW', trodAll_mk1 (shut_bool Try.underlying4 _), (trodAll_cons_mk (Below.trod laidOut (by kernel_rfl) (of_decide_eq_true (by kernel_rfl)) k0 bel lt0) (trodAll_cons_mk (shut_int Try.underlying3 w1) (trodAll_cons_mk (Below.trod laidOut (by kernel_rfl) (of_decide_eq_true (by kernel_rfl)) k2 bel lt2) trodAll_mk0))), rfl, bel.frame _, fun h => by cases h⟩

theorem over : Rows.peerListRow.holds Try.pinned (OpenSpec.ofChange Rows.peerListSpec) :=
  OpenClaim.holds_of_wide 4 Try.f4 rfl rfl rfl rfl rfl rfl rfl ⟨rfl, rfl, rfl, rfl, rfl⟩ rfl rfl rfl rfl rfl (by kernel_rfl) Try.func4 (by kernel_rfl)
    (of_decide_eq_true (by kernel_rfl)) (by unfold Func.isWrapper; first | (rw [if_pos (by decide +kernel)]; kernel_rfl) | (rw [if_neg (by decide +kernel)]; exact ⟨rfl, rfl⟩))
    (fun os started H enc _ => lifted os started H enc)

end Go.Proofs.Ythniahbbnknkoaa.peerList

namespace Go.Proofs.Ythniahbbnknkoaa
/-- For every world of addresses, every address and every peer: a list that follows a live one has that first, is never longer than it may be, and its head is that one. -/
theorem peerList_holds : Rows.PeerListSaid := peerList.over
#print axioms peerList_holds
end Go.Proofs.Ythniahbbnknkoaa
