/- Proved: for every name and every root (names of more than 60 bytes apart): trees that are none are told: with another root, with two that tell each other, with a root that tells, without a root though somebody tells; and the empty tree is none but well.
  The frame is the guide's own shell (proof-skeleton.mjs) at this function; the walk and all ahead of it are mine. -/
import Derived.Test.YtkkkldglceiiiaaGreatRows
import Derived.Test.YtkkkldglceiiiaaGreatJoinChQuiet
import Derived.Test.YtkkkldglceiiiaaGreatChAwake
import Derived.Deep.RegionWith
import Derived.Deep.CutBlock
import Derived.Deep.DeepCutAuto
import Derived.Deep.LoopGhost
import Derived.Deep.RegionHeld3
import Derived.WalkKit
import Derived.WalkLawsBesides
import Derived.ProofKit
import Derived.OpenShut
import Derived.ShutString
import Derived.ChangeOld
import Derived.Below
namespace Go.Proofs.YtkkkldglceiiiaaGreat.treeWrong
open Go.ChangeShapes Go.WideShapes Go.ChangeAt Go.RowKit
open Go.ChangeMaps (open_string shut_string)
set_option linter.unusedVariables false

theorem own : ownKnob Tryz.prog.godebug = none := by kernel_rfl
theorem laidOut : laidOutB Tryz.prog = true := by kernel_rfl


/-! ### STEP 1: the walk -/
set_option maxRecDepth 100000 in
set_option maxHeartbeats 20000000 in
theorem walk (a0 : ByteArray) (a1 : Int) (w : World) (w0 : a0.size ≤ maxLen) (w1 : (Lit.int .i64 a1).wf = true) :
    Calls Tryz.prog 3 #[.string a0, .int .i64 a1] w fun e w' => e = .returned (.bool true) ∧ Below w.heap.size w w' := by
  have z0 := w0
  unfold maxLen at z0
  clear w0 w1
  go_enter Tryz.func3, Tryz.ntmps3
  go_wp2_with fail
  refine (base_r w).mono ?_
  rintro e w1 ⟨rfl, h1, b1⟩
  go_wp2_with fail
  refine (new_base _ _ _ h1).mono ?_
  rintro e w2 ⟨r, gp, gk, rfl, hr, l1, l2, l3, b2⟩
  have H2 : Hid (Rn w w2 r gp gk ringA) := ⟨hr, ringA_inv, b1.trans (b2.mono b1.size), Nat.le_trans b1.size l2, Nat.le_trans b1.size l3⟩
  clear h1 b1 hr l1 l2 l3 b2
  by_cases hbig : 60 < a0.size
  · go_upto_region 2 with fail
    go_cut [29] (fun v wx => v = .bool true ∧ wx = w2)
    case first =>
      go_wp2
      go_meet
      exact ⟨by simp; omega, rfl⟩
    case rest =>
      rename World => W3
      obtain ⟨rfl, hw3⟩ := hcut
      subst W3
      clear hbig
      go_wp2_with (go_at_call 6; refine (awake20_any _).mono ?_; rintro e w3 ⟨rfl, b3⟩)
      go_ret
      exact ⟨rfl, (H2.out.below b3).bel⟩
  · have hb0 : a0.size ≤ 60 := by omega
    clear hbig
    obtain ⟨C, hC⟩ := cir_ex ringA_inv
    obtain ⟨ro, hcv, _⟩ := conv_ring ringA_rgt hC (fun _ => []) (gkey_plc a0)
    have hro : 0 ≤ ro ∧ ro < 4 := by rcases four hcv.rt.2.1 with e | e | e | e <;> omega
    have HRO : Hid (0 ≤ ro ∧ ro < 4) := hro
    have HCV : Hid (Conv (nxR ringA (fun _ => []) (gkeyT a0)) (fun n => ringA.lives n = true) (ringA.nextTo (fun _ => []) (gkeyT a0)) ro) := hcv
    clear hC hcv hro
    go_wp2_with fail
    refine (owner_is ringA_rgt (fun _ => []) (gkey_plc a0) HCV.out r gp gk w2 H2.out.ring).mono ?_
    rintro e w3 ⟨gc, b, c, d, rfl, b3, hOw⟩
    obtain ⟨n, hn⟩ : ∃ n, n = ringA.live.length := ⟨_, rfl⟩
    rw [← hn] at hOw ⊢
    clear hn
    obtain ⟨w4, hW4⟩ : ∃ W, W = w3.alloc (.cells #[.slice (some ⟨gc, 0, none⟩) n c, .slice b n d] 32) := ⟨_, rfl⟩
    obtain ⟨qc, hqc⟩ : ∃ q, q = w3.heap.size := ⟨_, rfl⟩
    have b4 : Below w3.heap.size w3 w4 := by rw [hW4]; exact below_one _ _
    have d0 : w4.cell? ⟨qc, 0, none⟩ = some (.slice (some ⟨gc, 0, none⟩) n c) := by rw [hW4, hqc]; exact World.cell?_alloc_new ..
    have d1 : w4.cell? ⟨qc, 1, none⟩ = some (.slice b n d) := by rw [hW4, hqc]; simp
    have dl := cell_block d0
    have HOW : Hid (∀ W', Below w4.heap.size w4 W' → Calls Tryz.prog 8 #[.agg #[.slice (some ⟨gc, 0, none⟩) n c, .slice b n d], .int .u64 (gkeyT a0)] W' fun e w9 => e = .returned (.int .i64 ro) ∧ Below W'.heap.size W' w9) := fun W' hW' => hOw W' (b4.trans (hW'.mono b4.size))
    have HW4 : Hid (Below w.heap.size w w4) := by
      have b := H2.out.bel.trans (b3.mono H2.out.bel.size)
      exact b.trans (b4.mono b.size)
    clear hOw b3 b4 HCV
    go_upto_region 5 with fail
    rw [← hW4]
    try rw [← hqc]
    clear hW4 hqc
    go_cut [8] (fun v wx => v = .int .i64 ro ∧ Hid (Below w4.heap.size w4 wx))
    case first =>
      obtain ⟨ι, F, _, hF0, hFb, hFc⟩ := grown_fam w4
      have g0 : ∀ i, (F i).cell? ⟨qc, 0, none⟩ = _ := fun i => cell_grown d0 (hFb i)
      have g1 : ∀ i, (F i).cell? ⟨qc, 1, none⟩ = _ := fun i => cell_grown d1 (hFb i)
      have HF : Hid ((∃ i, { w4 with drawn := w4.drawn + 1 } = F i) ∧ (∀ i, Below w4.heap.size w4 (F i))) := ⟨hF0, hFb⟩
      have HFK : Hid (∀ i, Calls Tryz.prog 9 #[.string a0] (F i) fun e w' => e = .returned (.int .u64 (gkeyT a0)) ∧ ∃ k, w' = F k) := fun i =>
        (gkey_t a0 (F i) (by omega)).mono (fun e w' z => ⟨z.1, i, z.2⟩)
      have HFO : Hid (∀ i, Calls Tryz.prog 8 #[.agg #[.slice (some ⟨gc, 0, none⟩) n c, .slice b n d], .int .u64 (gkeyT a0)] (F i) fun e w' => e = .returned (.int .i64 ro) ∧ ∃ k, w' = F k) := fun i =>
        (HOW.out (F i) (hFb i)).mono (fun e w' z => ⟨z.1, hFc i w' (z.2.mono (hFb i).size)⟩)
      clear hF0 hFb hFc
      refine wp_region_fam F HF.out.1 (by kernel_rfl) (by kernel_rfl) ?_
      repeat (go_big_quiet_step (first
        | (go_at_call 9; exact HFK.out _)
        | (go_at_call 8; exact HFO.out _)))
      refine wpQuiet_nil ?_
      rintro _ ⟨i, rfl⟩
      have HB8 := HF.out.2 i
      go_wp2
      go_meet
      exact ⟨rfl, HB8⟩
    case rest =>
      rename World => w5
      obtain ⟨rfl, HB5⟩ := hcut
      replace d0 := cell_grown d0 HB5.out
      replace d1 := cell_grown d1 HB5.out
      replace dl := cell_block d0
      obtain ⟨cd, hcd⟩ : ∃ cd, ChkIs ⟨a1, []⟩ ro cd ∧ cd = if a1 = -1 ∨ a1 = ro then 0 else 11 := by
        by_cases h1 : a1 = -1
        · exact ⟨0, .none h1 rfl, by simp [h1]⟩
        · by_cases h2 : a1 = ro
          · exact ⟨0, .calm h1 rfl h2.symm (fun x hx => by simp at hx), by simp [h2]⟩
          · exact ⟨11, .other h1 rfl (fun e => h2 e.symm), by simp [h1, h2]⟩
      have HCD : Hid (ChkIs ⟨a1, []⟩ ro cd ∧ cd = if a1 = -1 ∨ a1 = ro then 0 else 11) := hcd
      clear hcd
      obtain ⟨Wa, ga, mk1, ua, ba, la⟩ := mk_up w5
      replace d0 := cell_grown d0 ba
      replace d1 := cell_grown d1 ba
      replace dl := cell_block d0
      have HX : Hid (UpAt Wa ga [] ∧ Below w4.heap.size w4 Wa ∧ Below w5.heap.size w5 Wa) := ⟨ua, HB5.out.trans (ba.mono HB5.out.size), ba⟩
      clear ua ba la
      go_wp2_with (go_at_call 10; refine (check_any ⟨a1, []⟩ ga gc n c b d a0 ro cd Wa HX.out.1 (by simp) (by simp [i64]) (by omega) (fun W' hW' => HOW.out W' (HX.out.2.1.trans (hW'.mono HX.out.2.1.size))) (HCD.out.1)).mono ?_; rintro e w6 ⟨rfl, b6⟩)
      replace d0 := cell_grown d0 b6
      replace d1 := cell_grown d1 b6
      replace dl := cell_block d0
      have HB6 : Hid (Below w4.heap.size w4 w6) := HX.out.2.1.trans (b6.mono HX.out.2.1.size)
      clear HX b6 mk1
      have HK7 : Hid (ChkIs ⟨ro, [(50, 51), (51, 50)]⟩ ro 13) := by
        have hh : ∀ k, ¬ (⟨ro, [(50, 51), (51, 50)]⟩ : Tr).rch k 50 ∧ ¬ (⟨ro, [(50, 51), (51, 50)]⟩ : Tr).rch k 51 := by
          intro k
          induction k with
          | zero => exact ⟨fun e => by have e : (50 : Int) = ro := e; have := HRO.out; omega, fun e => by have e : (51 : Int) = ro := e; have := HRO.out; omega⟩
          | succ k ih =>
            refine ⟨?_, ?_⟩
            · rintro ⟨_, v, hv, hk⟩
              simp [lookI] at hv
              subst hv
              exact ih.2 hk
            · rintro ⟨_, v, hv, hk⟩
              simp [lookI] at hv
              subst hv
              exact ih.1 hk
        have h1 : ¬ (50 : Int) = ro := by have := HRO.out; omega
        have h2 : ¬ (51 : Int) = ro := by have := HRO.out; omega
        have h3 : ¬ ro = -1 := by have := HRO.out; omega
        exact .round h3 (by simp [lookI, h1, h2]) rfl ⟨50, by simp, fun k => (hh k).1⟩
      obtain ⟨Wa, ga, mk1, ua, ba, la⟩ := mk_up w6
      obtain ⟨Wp0, pu0, up0, bp0⟩ := put_up ua (50) (51) (by simp [lookI])
      have bb0 := bp0 w6.heap.size w6 la ba
      obtain ⟨Wp1, pu1, up1, bp1⟩ := put_up up0 (51) (50) (by simp [lookI])
      have bb1 := bp1 w6.heap.size w6 la bb0
      replace d0 := cell_grown d0 bb1
      replace d1 := cell_grown d1 bb1
      replace dl := cell_block d0
      have HX : Hid (UpAt Wp1 ga [(50, 51), (51, 50)] ∧ Below w4.heap.size w4 Wp1 ∧ Below w6.heap.size w6 Wp1) := ⟨up1, HB6.out.trans (bb1.mono HB6.out.size), bb1⟩
      clear ua up0 bp0 bb0 up1 bp1 bb1 ba la
      go_wp2_with (go_at_call 10; refine (check_any ⟨ro, [(50, 51), (51, 50)]⟩ ga gc n c b d a0 ro 13 Wp1 HX.out.1 (by simp) (by simp [i64]) (by omega) (fun W' hW' => HOW.out W' (HX.out.2.1.trans (hW'.mono HX.out.2.1.size))) (HK7.out)).mono ?_; rintro e w7 ⟨rfl, b6⟩)
      replace d0 := cell_grown d0 b6
      replace d1 := cell_grown d1 b6
      replace dl := cell_block d0
      have HB7 : Hid (Below w4.heap.size w4 w7) := HX.out.2.1.trans (b6.mono HX.out.2.1.size)
      clear HX b6 HK7 mk1 pu0 pu1
      have HK8 : Hid (ChkIs ⟨ro, [(ro, 50)]⟩ ro 11) := .tells (show ¬ ro = -1 by have := HRO.out; omega) ⟨50, by simp [lookI]⟩
      obtain ⟨Wa, ga, mk1, ua, ba, la⟩ := mk_up w7
      obtain ⟨Wp0, pu0, up0, bp0⟩ := put_up ua (ro) (50) (by simp [lookI])
      have bb0 := bp0 w7.heap.size w7 la ba
      replace d0 := cell_grown d0 bb0
      replace d1 := cell_grown d1 bb0
      replace dl := cell_block d0
      have HX : Hid (UpAt Wp0 ga [(ro, 50)] ∧ Below w4.heap.size w4 Wp0 ∧ Below w7.heap.size w7 Wp0) := ⟨up0, HB7.out.trans (bb0.mono HB7.out.size), bb0⟩
      clear ua up0 bp0 bb0 ba la
      go_wp2_with (go_at_call 10; refine (check_any ⟨ro, [(ro, 50)]⟩ ga gc n c b d a0 ro 11 Wp0 HX.out.1 (by simp) (by simp [i64]; have := HRO.out; omega) (by omega) (fun W' hW' => HOW.out W' (HX.out.2.1.trans (hW'.mono HX.out.2.1.size))) (HK8.out)).mono ?_; rintro e w8 ⟨rfl, b6⟩)
      replace d0 := cell_grown d0 b6
      replace d1 := cell_grown d1 b6
      replace dl := cell_block d0
      have HB8 : Hid (Below w4.heap.size w4 w8) := HX.out.2.1.trans (b6.mono HX.out.2.1.size)
      clear HX b6 HK8 mk1 pu0
      obtain ⟨Wa, ga, mk1, ua, ba, la⟩ := mk_up w8
      replace d0 := cell_grown d0 ba
      replace d1 := cell_grown d1 ba
      replace dl := cell_block d0
      have HX : Hid (UpAt Wa ga [] ∧ Below w4.heap.size w4 Wa ∧ Below w8.heap.size w8 Wa) := ⟨ua, HB8.out.trans (ba.mono HB8.out.size), ba⟩
      clear ua ba la
      go_wp2_with (go_at_call 10; refine (check_any ⟨-1, []⟩ ga gc n c b d a0 ro 0 Wa HX.out.1 (by simp) (by simp [i64]) (by omega) (fun W' hW' => HOW.out W' (HX.out.2.1.trans (hW'.mono HX.out.2.1.size))) (.none rfl rfl)).mono ?_; rintro e w9 ⟨rfl, b6⟩)
      replace d0 := cell_grown d0 b6
      replace d1 := cell_grown d1 b6
      replace dl := cell_block d0
      have HB9 : Hid (Below w4.heap.size w4 w9) := HX.out.2.1.trans (b6.mono HX.out.2.1.size)
      clear HX b6 mk1
      obtain ⟨Wa, ga, mk1, ua, ba, la⟩ := mk_up w9
      obtain ⟨Wp0, pu0, up0, bp0⟩ := put_up ua (1) (2) (by simp [lookI])
      have bb0 := bp0 w9.heap.size w9 la ba
      replace d0 := cell_grown d0 bb0
      replace d1 := cell_grown d1 bb0
      replace dl := cell_block d0
      have HX : Hid (UpAt Wp0 ga [(1, 2)] ∧ Below w4.heap.size w4 Wp0 ∧ Below w9.heap.size w9 Wp0) := ⟨up0, HB9.out.trans (bb0.mono HB9.out.size), bb0⟩
      clear ua up0 bp0 bb0 ba la
      go_wp2_with (go_at_call 10; refine (check_any ⟨-1, [(1, 2)]⟩ ga gc n c b d a0 ro 11 Wp0 HX.out.1 (by simp) (by simp [i64]) (by omega) (fun W' hW' => HOW.out W' (HX.out.2.1.trans (hW'.mono HX.out.2.1.size))) (.some rfl (by simp))).mono ?_; rintro e w10 ⟨rfl, b6⟩)
      have HB10 : Hid (Below w4.heap.size w4 w10) := HX.out.2.1.trans (b6.mono HX.out.2.1.size)
      clear HX b6 d0 d1 dl mk1 pu0
      have h13 : chkV 13 = .iface 43 (.int .i64 13) := rfl
      have h11 : chkV 11 = .iface 43 (.int .i64 11) := rfl
      have h00 : chkV 0 = .nilIface := rfl
      rw [h13, h11, h00]
      clear h13
      have HWE : Hid (Below w.heap.size w w10) := HW4.out.trans (HB10.out.mono HW4.out.size)
      obtain ⟨_, hcd⟩ := HCD.out
      go_upto_region 11 with fail
      by_cases h1 : a1 = ro
      · obtain rfl : cd = 0 := by rw [hcd, if_pos (.inr h1)]
        rw [h00]
        have e1 : (a1 == ro) = true := by simpa using h1
        clear hcd h1 h00 h11 HCD
        go_wp2_with (first
          | (go_at_call 6; refine (awake20_any _).mono ?_; rintro e w11 ⟨rfl, b11⟩)
          | (go_at_call 11; refine (is_code _ _).mono ?_; rintro e w' ⟨rfl, hw'⟩; subst w'))
        go_ret
        exact ⟨rfl, HWE.out.trans (b11.mono HWE.out.size)⟩
      · have e1 : (a1 == ro) = false := by simpa using h1
        by_cases h2 : a1 = -1
        · obtain rfl : cd = 0 := by rw [hcd, if_pos (.inl h2)]
          rw [h00]
          have e2 : (a1 == -1) = true := by simpa using h2
          clear hcd h1 h2 h00 h11 HCD
          go_wp2_with (first
            | (go_at_call 6; refine (awake20_any _).mono ?_; rintro e w11 ⟨rfl, b11⟩)
            | (go_at_call 11; refine (is_code _ _).mono ?_; rintro e w' ⟨rfl, hw'⟩; subst w'))
          go_ret
          exact ⟨rfl, HWE.out.trans (b11.mono HWE.out.size)⟩
        · obtain rfl : cd = 11 := by rw [hcd, if_neg (fun e => e.elim h2 h1)]
          rw [h11]
          have e2 : (a1 == -1) = false := by simpa using h2
          clear hcd h1 h2 h00 h11 HCD
          go_wp2_with (first
            | (go_at_call 6; refine (awake20_any _).mono ?_; rintro e w11 ⟨rfl, b11⟩)
            | (go_at_call 11; refine (is_code _ _).mono ?_; rintro e w' ⟨rfl, hw'⟩; subst w'))
          go_ret
          exact ⟨rfl, HWE.out.trans (b11.mono HWE.out.size)⟩

/-! ### The row's step -/
set_option maxRecDepth 100000 in
theorem lifted (os : Os) (started : os.Started) (H : Type) (enc : TypeId × Value → H) :
    ReturnsInHanded {} Tryz.checked os 3 .any (Rows.treeWrongSpec.pre6 enc Tryz.prog Tryz.f3 Rows.treeWrongRow.domain false) (Rows.treeWrongSpec.post enc Tryz.prog Tryz.f3 false true false false) := by
  refine returnsInHanded_of_change (C := Tryz.checked) own started (by kernel_rfl) Tryz.func3
    (ChangeSpec.witness6 (enc := enc) (C := Tryz.checked) false ⟨#[], #[.string ByteArray.empty, .int .i64 0], []⟩ 8 (by kernel_rfl) (by kernel_rfl) (by kernel_rfl) (by kernel_rfl)) ?_
  intro W base args ds gs before hval0 hW hcnd _
  have hval : ∀ (j : Nat) t v, Tryz.f3.params[j]? = some t → args[j]? = some v → Value.okWide Tryz.prog W .any base t v := hval0
  have hW' := hW
  obtain ⟨p, q, hA0, hV, rfl, hfz, hnd⟩ := hW
  have hA : DataW.TrodAll enc Tryz.prog W 0 (fun _ => true) true Tryz.f3.params.toList args.toList ds p := hA0
  rw [Tryz.params3] at hA hval
  obtain ⟨v0, vs0, d0, ds0, p0, q0, hargs, rfl, rfl, h0, r0⟩ := trodAll_cons hA
  obtain ⟨v1, vs1, d1, ds1, p1, q1, rfl, rfl, rfl, h1, r1⟩ := trodAll_cons r0
  obtain ⟨rfl, rfl, rfl⟩ := trodAll_nil r1
  obtain rfl : args = #[v0, v1] := by cases args; simp_all
  obtain ⟨rfl, rfl⟩ := trodVars_none hV
  obtain ⟨a0, rfl, rfl, rfl, w0⟩ := open_string Tryz.underlying9 (hval 0 9 v0 rfl rfl) h0
  obtain ⟨a1, rfl, rfl, rfl, w1⟩ := open_int Tryz.underlying3 (hval 1 3 v1 rfl rfl) h1
  clear hA0 hval0
  refine (walk a0 a1 W w0 w1).mono fun e W' ⟨he, bel⟩ => ?_
  subst he
  exact ⟨_, rfl, _, _, _, [], _, [], hW', trodAll_mk1 (shut_bool Tryz.underlying4 _), (trodAll_cons_mk (shut_string Tryz.underlying9 w0) (trodAll_cons_mk (shut_int Tryz.underlying3 w1) trodAll_mk0)), rfl, bel.frame _, fun h => by cases h⟩

theorem over : Rows.treeWrongRow.holds Tryz.pinned (OpenSpec.ofChange Rows.treeWrongSpec) :=
  OpenClaim.holds_of_wide 3 Tryz.f3 rfl rfl rfl rfl rfl rfl rfl ⟨rfl, rfl, rfl, rfl, rfl⟩ rfl rfl rfl rfl rfl (by kernel_rfl) Tryz.func3 (by kernel_rfl)
    (of_decide_eq_true (by kernel_rfl)) (by unfold Func.isWrapper; first | (rw [if_pos (by decide +kernel)]; kernel_rfl) | (rw [if_neg (by decide +kernel)]; exact ⟨rfl, rfl⟩))
    (fun os started H enc _ => lifted os started H enc)

end Go.Proofs.YtkkkldglceiiiaaGreat.treeWrong

namespace Go.Proofs.YtkkkldglceiiiaaGreat
/-- Proved: for every name and every root (names of more than 60 bytes apart): trees that are none are told: with another root, with two that tell each other, with a root that tells, without a root though somebody tells; and the empty tree is none but well. -/
theorem treeWrong_holds : Rows.TreeWrongSaid := treeWrong.over
#print axioms treeWrong_holds
end Go.Proofs.YtkkkldglceiiiaaGreat
