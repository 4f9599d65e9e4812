/- Proved: for every list of calls, of which the first 30 are made: as long as no more than two members go between two plans that are done, each wish that was put is at all keepers of its group; errors.errorType being laid as the program's text lays it (the card's tie, over the pruned copy).
  The frame is the guide's own shell (proof-skeleton.mjs) at this function; the walk and all ahead of it are mine. -/
import Derived.Test.YtmajlldfiiokoaaGreatDoorRows
import Derived.Test.YtmajlldfiiokoaaGreatDoorJoinRdKS
import Derived.Test.YtmajlldfiiokoaaGreatDoorChAll
import Derived.Test.YtmajlldfiiokoaaGreatDoorJoinRdKeep
import Derived.Deep.RegionWith
import Derived.Deep.CutBlock
import Derived.Deep.DeepCutAuto
import Derived.Deep.LoopGhost
import Derived.Deep.RegionHeld3
import Derived.WalkKit
import Derived.WalkLawsBesides
import Derived.ProofKit
import Derived.OpenShut
import Derived.ChangeSame
import Derived.ChangeVars
import Derived.JoinedOf
import Derived.RowKit
import Derived.RowKitTokens
import Derived.LaidLaws
import Derived.LaidHandle
import Derived.Stop.Joined
import Derived.SevenTiedAt
import Derived.Test.YtmajlldfiiokoaaGreatDoorTie
import Derived.Test.YtmajlldfiiokoaaGreatDoorCards
import Derived.ShutString
import Derived.ChangeOld
import Derived.Below
namespace Go.Proofs.YtmajlldfiiokoaaGreatDoor.rdvKept
open Go.ChangeShapes Go.WideShapes Go.ChangeAt Go.RowKit
open Go.ChangeMaps (open_string shut_string)
set_option linter.unusedVariables false

theorem own : ownKnob Tryz.prog.godebug = none := by kernel_rfl
theorem laidOut : laidOutB Tryz.prog = true := by kernel_rfl


theorem et : Tryz.prog.globalNamed "errors.errorType" = some 0 := by kernel_rfl
theorem rt : (Tryz.prog.cutTypes.find? (·.1 == "internal/reflectlite.rtype")).map (·.2) = some 259 := by kernel_rfl
theorem oneRow : ((List.range 332).filter fun t => Tryz.prog.rowNamed t [101, 114, 114, 111, 114]) = [45] := by kernel_rfl
theorem typesSize : Tryz.prog.types.size = 332 := by kernel_rfl
/-- What the tied variable gives a walk: its one cell. -/
theorem handle_of_laid {W : World} (h : laidMetH Tryz.prog Rows.rdvKeptRow.laid W) : ErrType W := by
  have h' : laidMet Tryz.prog [] W ∧ handlesMet Tryz.prog Rows.rdvKeptRow.laid W := h
  obtain ⟨name, u, ty, e1, e2, e3, e4, e5⟩ := h'.2 _ (List.mem_singleton.2 rfl)
  have en : name = [101, 114, 114, 111, 114] := (Option.some.inj e1).symm
  subst en
  obtain rfl := Option.some.inj (rt.symm.trans e2)
  have hm : ty ∈ (List.range 332).filter fun t => Tryz.prog.rowNamed t [101, 114, 114, 111, 114] := List.mem_filter.2 ⟨List.mem_range.2 (by rw [← typesSize]; exact e3), e4⟩
  rw [oneRow] at hm
  obtain rfl := List.mem_singleton.1 hm
  have hh : typeHandle Tryz.prog 45 = .pointer (some ⟨1, 45, none⟩) := by kernel_rfl
  rw [hh] at e5
  unfold ErrType
  simpa using World.var?_cell et e5 0

/-! ### STEP 1: the walk -/
set_option maxRecDepth 100000 in
set_option maxHeartbeats 20000000 in
theorem walk (a0 : Option Addr) (len0 cap0 : Nat) (t0 : List Ac21) (w : World) (hE : ErrType w) (w0 : InRow 10 Ac21.cells (Ac21.ok w) ac210 w a0 len0 t0) :
    Calls Tryz.prog 7 #[.slice a0 len0 cap0] w fun e w' => e = .returned (.bool true) ∧ Below w.heap.size w w' := by
  obtain ⟨iE, hiE, hzE0, hzE1, hzE2⟩ := infoEnt_parts
  obtain ⟨iS, hiS, hzS0, hzS1, hzS2⟩ := infoStr_parts
  have HT : Hid (InRow 10 Ac21.cells (Ac21.ok w) ac210 w a0 len0 t0) := w0
  have hm1 := w0.2.1
  clear w0 hE
  go_enter Tryz.func7, Tryz.ntmps7
  go_wp2_with fail
  refine (base_r w).mono ?_
  rintro e w1 ⟨rfl, h1, b1⟩
  have HB1 : Hid (Below w.heap.size w w1) := b1
  have HMd : Hid _ := made_base _ _ h1
  clear h1 b1
  go_wp2_with fail
  refine Calls.mono HMd.out ?_
  clear HMd
  rintro e w3 ⟨r, gp, gkr, x0, x1, x2, x3, rfl, hsl, hrn, _⟩
  obtain ⟨⟨p0, p1, p2, rfl⟩, ⟨p3, p4, p5, rfl⟩, ⟨p6, p7, p8, rfl⟩, ⟨p9, p10, p11, rfl⟩⟩ := hsl
  obtain ⟨W4, hW4⟩ : ∃ W4, W4 = w3.alloc (.cells #[.slice p0 p1 p2, .slice p3 p4 p5, .slice p6 p7 p8, .slice p9 p10 p11] 32) := ⟨_, rfl⟩
  have H4 : Hid (Rn w W4 r gp gkr ringA) := by
    have q := HB1.out.size
    refine Rn.below ⟨hrn.ring, hrn.inv, HB1.out.trans (hrn.bel.mono HB1.out.size), Nat.le_trans q hrn.gp, Nat.le_trans q hrn.gk⟩ ?_
    rw [hW4]; exact below_one _ _
  clear hrn HB1
  go_upto_region 2 with fail
  rw [← hW4]
  clear hW4
  go_wp2_with fail
  refine (rnew_s W4).mono ?_
  rintro e w5 ⟨rfl, hw5⟩
  obtain ⟨s, hs⟩ : ∃ s, s = W4.heap.size + 1 := ⟨_, rfl⟩
  obtain ⟨g, hg⟩ : ∃ g, g = W4.heap.size := ⟨_, rfl⟩
  have H5 : Hid (Stm W4.heap.size W4 w5 s g (fun b => b = s ∨ b = g) (fun _ => []) ∧ Below W4.heap.size W4 w5 ∧ s < W4.heap.size + 2 ∧ g < W4.heap.size + 2 ∧ W4.heap.size + 2 ≤ w5.heap.size) := by
    have h := Stm.new W4 hw5
    rw [hs, hg]
    exact ⟨h, h.bel, by omega, by omega, by rw [hw5]; simp⟩
  rw [← hs]
  clear hw5 hs hg
  go_wp2_with fail
  refine (awake21_any w5).mono ?_
  rintro e w6 ⟨rfl, b6⟩
  have H6 : Hid (Rn w w6 r gp gkr ringA ∧ Below w5.heap.size w5 w6) := ⟨(H4.out.below H5.out.2.1).below b6, b6⟩
  clear b6
  go_wp2_with fail
  refine (of_k r gp gkr ringA w6 H6.out.1.ring H6.out.1.inv).mono ?_
  rintro e w7 ⟨C, g1, b1, c1, d1, n1, rfl, hc, b7, hg1, hx1⟩
  obtain ⟨W8, hW8⟩ : ∃ W8, W8 = w7.alloc (.cells #[.slice (some ⟨g1, 0, none⟩) n1 c1, .slice b1 n1 d1] 50) := ⟨_, rfl⟩
  obtain ⟨W9, hW9⟩ : ∃ W9, W9 = W8.alloc (.cells #[] 89) := ⟨_, rfl⟩
  obtain ⟨W10, hW10⟩ : ∃ W10, W10 = W9.alloc (.cells #[] 9) := ⟨_, rfl⟩
  obtain ⟨q, hq⟩ : ∃ q, q = w7.heap.size := ⟨_, rfl⟩
  have k8 : W8.heap.size = w7.heap.size + 1 := by rw [hW8]; simp
  have k9 : W9.heap.size = w7.heap.size + 1 + 1 := by rw [hW9]; simp [k8]
  obtain ⟨a8, ha8⟩ : ∃ a, a = w7.heap.size + 1 := ⟨_, rfl⟩
  obtain ⟨a9, ha9⟩ : ∃ a, a = w7.heap.size + 1 + 1 := ⟨_, rfl⟩
  have H10 : Hid (∃ M, KEm w W10 r gp gkr s g q (.slice (some ⟨a8, 0, none⟩) 0 0) (.slice (some ⟨a9, 0, none⟩) 0 0) 0 0 M) := by
    rw [hq, ha9, ← k9, ha8, ← k8]
    have z56 := H6.out.2.size
    exact KEm.start H4.out.ring H4.out.inv H4.out.bel H4.out.gp H4.out.gk (H5.out.2.1.trans ((H6.out.2.trans (b7.mono z56)).mono H5.out.2.1.size)) (((H5.out.1.below H6.out.2)).below b7) hc (z := W4.heap.size + 2) (by omega) (fun b hb => by
      rcases hb with e | e
      · rw [e]; exact H5.out.2.2.1
      · rw [e]; exact H5.out.2.2.2.1) (by have := H5.out.2.2.2.2; omega) (fun x hx => by have := hx1 x hx; have := H5.out.2.2.2.2; omega) hW8 hW9 hW10
  clear hc b7 hg1 hx1 H4 H5 H6 k8 k9
  go_upto_region 8 with fail
  rw [← hW8, ← hW9, ← hW10]
  try rw [← ha9]
  try rw [← ha8]
  try rw [← hq]
  clear hW8 hW9 hW10 ha8 ha9 hq
  go_wp2
  go_loopg [8, 9, 10, 11] len0 (fun kx v8 v9 v10 v11 wr => ∃ (i went pn pc gc : Nat) (pa ga : Option Addr), v11 = .int .i64 i ∧ v10 = .int .i64 went ∧ v8 = .slice pa pn pc ∧ v9 = .slice ga pn gc ∧ i ≤ len0 ∧ i ≤ 30 ∧ went ≤ 1 ∧ kx = len0 - i ∧ Hid (∃ M, KEm w wr r gp gkr s g q (.slice pa pn pc) (.slice ga pn gc) pn went M))
  case atStart => exact ⟨0, 0, 0, 0, 0, _, _, rfl, rfl, rfl, rfl, Nat.zero_le _, by omega, by omega, rfl, H10.out⟩
  case round =>
    obtain ⟨i, went, pn, pc, gc, pa, ga, rfl, rfl, rfl, rfl, hi, hi30, hwe, rfl, HB⟩ := hrel
    clear H10
    go_upto_region 10 with fail
    go_cut [47] (fun v wx => ∃ bb : Bool, v = .bool bb ∧ (bb = true ↔ i < len0 ∧ i < 30) ∧ wx = wr)
    case first =>
      by_cases h1 : (i : Int) < (len0 : Int)
      · by_cases h2 : (i : Int) < 30
        · go_wp2
          go_meet
          exact ⟨true, by simp, by simp; omega, rfl⟩
        · go_wp2
          go_meet
          exact ⟨false, by simp, by simp; omega, rfl⟩
      · go_wp2
        go_meet
        exact ⟨false, by simp, by simp; omega, rfl⟩
    rename World => Wq
    obtain ⟨bb, rfl, hbb, hwq⟩ := hcut
    subst Wq
    cases bb with
    | false =>
      clear hbb
      have HF : Hid (Below w.heap.size w wr) := by
        obtain ⟨M, hM⟩ := HB.out
        exact hM.bel
      go_wp2
      go_ret
      exact ⟨rfl, HF.out⟩
    | true =>
      obtain ⟨hlt, hl30⟩ := hbb.1 rfl
      clear hbb
      have hkI : (0 : Int) ≤ (i : Int) ∧ (i : Int) < (len0 : Int) := by omega
      obtain ⟨M, hM⟩ := HB.out
      have HM : Hid (KEm w wr r gp gkr s g q (.slice pa pn pc) (.slice ga pn gc) pn went M) := hM
      clear HB hM
      obtain ⟨b, o, hba, hbl, hok, hcell⟩ := Ac21.at HT.out HM.out.bel hlt
      subst hba
      obtain ⟨t, ht⟩ : ∃ t, t = t0.getD i ac210 := ⟨_, rfl⟩
      rw [← ht] at hok hcell
      clear ht
      obtain ⟨⟨rk, rn, rv, ri⟩, kd, x⟩ := t
      obtain ⟨xg, xc, xa, xl, xp, xn, xt, xf⟩ := x
      have e0 : wr.cell? ⟨b, o + i * 10, none⟩ = some (.int .i64 rk) := hcell 0 (by omega)
      have e1 : wr.cell? ⟨b, o + i * 10 + 1, none⟩ = some (.int .i64 rn) := hcell 1 (by omega)
      have e2 : wr.cell? ⟨b, o + i * 10 + 2, none⟩ = some (.int .i64 rv) := hcell 2 (by omega)
      have e3 : wr.cell? ⟨b, o + i * 10 + 3, none⟩ = some (.int .u64 ri) := hcell 3 (by omega)
      have e4 : wr.cell? ⟨b, o + i * 10 + 4, none⟩ = some (.int .i64 kd) := hcell 4 (by omega)
      have e5 : wr.cell? ⟨b, o + i * 10 + 5, none⟩ = some (.string xg) := hcell 5 (by omega)
      have e6 : wr.cell? ⟨b, o + i * 10 + 6, none⟩ = some (.int .i64 xc) := hcell 6 (by omega)
      have e7 : wr.cell? ⟨b, o + i * 10 + 7, none⟩ = some (.slice xa xl xp) := hcell 7 (by omega)
      have e8 : wr.cell? ⟨b, o + i * 10 + 8, none⟩ = some (.bool xn) := hcell 8 (by omega)
      have e9 : wr.cell? ⟨b, o + i * 10 + 9, none⟩ = some (.int .i64 xt) := hcell 9 (by omega)
      obtain ⟨bx, hbx⟩ : ∃ bx : Obj, bx = .cells #[.int .i64 rk, .int .i64 rn, .int .i64 rv, .int .u64 ri, .int .i64 kd, .string xg, .int .i64 xc, .slice xa xl xp, .bool xn, .int .i64 xt] 91 (0, 0) := ⟨_, rfl⟩
      obtain ⟨W12, hW12⟩ : ∃ W, W = wr.alloc (.cells #[.int .i64 rk, .int .i64 rn, .int .i64 rv, .int .u64 ri, .int .i64 kd, .string xg, .int .i64 xc, .slice xa xl xp, .bool xn, .int .i64 xt] 91) := ⟨_, rfl⟩
      obtain ⟨qa, hqa⟩ : ∃ qa, qa = wr.heap.size := ⟨_, rfl⟩
      have b12 : Below wr.heap.size wr W12 := by rw [hW12]; exact below_one _ _
      have hb12 : W12.heap[qa]? = some bx := by rw [hW12, hqa, hbx]; exact heap_alloc_new _ _
      have HX : Hid (Ac21.ok w ⟨⟨rk, rn, rv, ri⟩, kd, ⟨xg, xc, xa, xl, xp, xn, xt, xf⟩⟩ ∧ bx = .cells #[.int .i64 rk, .int .i64 rn, .int .i64 rv, .int .u64 ri, .int .i64 kd, .string xg, .int .i64 xc, .slice xa xl xp, .bool xn, .int .i64 xt] 91 (0, 0)) := ⟨hok, hbx⟩
      have H12 : Hid (KEm w W12 r gp gkr s g q (.slice pa pn pc) (.slice ga pn gc) pn went M ∧ W12.heap[qa]? = some bx ∧ ¬ M qa) := ⟨HM.out.below b12, hb12, fun e => by have := HM.out.lt e; omega⟩
      clear hok hcell hbx hb12 b12
      go_upto_region 13 with fail
      rw [← hW12]
      try rw [← hqa]
      clear hW12 hqa e0 e1 e2 e3 e4 e5 e6 e7 e8 e9 HM hbl
      have hbW := H12.out.2.1
      rw [HX.out.2] at hbW
      have y1 : W12.cell? ⟨qa, 1, none⟩ = some (.int .i64 rn) := by simp [World.cell?, hbW]
      have y2 : W12.cell? ⟨qa, 2, none⟩ = some (.int .i64 rv) := by simp [World.cell?, hbW]
      have y3 : W12.cell? ⟨qa, 3, none⟩ = some (.int .u64 ri) := by simp [World.cell?, hbW]
      have y4 : W12.cell? ⟨qa, 4, none⟩ = some (.int .i64 kd) := by simp [World.cell?, hbW]
      have y5 : W12.cell? ⟨qa, 5, none⟩ = some (.string xg) := by simp [World.cell?, hbW]
      have y6 : W12.cell? ⟨qa, 6, none⟩ = some (.int .i64 xc) := by simp [World.cell?, hbW]
      have y7 : W12.cell? ⟨qa, 7, none⟩ = some (.slice xa xl xp) := by simp [World.cell?, hbW]
      have y8 : W12.cell? ⟨qa, 8, none⟩ = some (.bool xn) := by simp [World.cell?, hbW]
      have y9 : W12.cell? ⟨qa, 9, none⟩ = some (.int .i64 xt) := by simp [World.cell?, hbW]
      have yl := cell_block y4
      clear hbW
      go_upto_block 2 with fail
      go_cut [8, 9, 10] (fun v8 v9 v10 wx => ∃ (went2 pn2 pc2 gc2 : Nat) (pa2 ga2 : Option Addr), v10 = .int .i64 went2 ∧ v8 = .slice pa2 pn2 pc2 ∧ v9 = .slice ga2 pn2 gc2 ∧ went2 ≤ 2 ∧ Hid (∃ M2, KEm w wx r gp gkr s g q (.slice pa2 pn2 pc2) (.slice ga2 pn2 gc2) pn2 went2 M2 ∧ wx.heap[qa]? = some bx ∧ ¬ M2 qa))
      case first =>
        by_cases k1 : kd = 1
        · subst k1
          have HJ : Hid _ := run_join rn ri rv HX.out.1.1.2.2.2 HX.out.1.1.2.2.1 H12.out.1
          go_wp2_with fail
          refine Calls.mono HJ.out ?_
          clear HJ
          rintro e w5 ⟨⟨ev, rfl⟩, h5, f5⟩
          have HF : Hid (∃ M2, KEm w w5 r gp gkr s g q (.slice pa pn pc) (.slice ga pn gc) pn went M2 ∧ w5.heap[qa]? = some bx ∧ ¬ M2 qa) := ⟨M, h5, (f5.block qa yl H12.out.2.2).trans H12.out.2.1, f5.off yl H12.out.2.2⟩
          clear h5 f5 y1 y2 y3 y4 y5 y6 y7 y8 y9 yl
          go_wp2
          go_meet
          exact ⟨went, pn, pc, gc, pa, ga, rfl, rfl, rfl, by omega, HF⟩
        have k1' : (kd == 1) = false := by simpa using k1
        by_cases k2 : kd = 2
        · subst k2
          have HJ : Hid _ := run_fail rn H12.out.1
          go_wp2_with fail
          refine Calls.mono HJ.out ?_
          clear HJ
          rintro e w5 ⟨hcase, f5⟩
          rcases hcase with ⟨cd, rfl, hcne, h5⟩ | ⟨rfl, h5⟩
          · have HF : Hid (∃ M2, KEm w w5 r gp gkr s g q (.slice pa pn pc) (.slice ga pn gc) pn went M2 ∧ w5.heap[qa]? = some bx ∧ ¬ M2 qa) := ⟨M, h5, (f5.block qa yl H12.out.2.2).trans H12.out.2.1, f5.off yl H12.out.2.2⟩
            rw [errV_code hcne]
            clear h5 f5 y1 y2 y3 y4 y5 y6 y7 y8 y9 yl hcne
            go_wp2
            go_meet
            exact ⟨went, pn, pc, gc, pa, ga, rfl, rfl, rfl, by omega, HF⟩
          · have HD : Hid (KEd w w5 r gp gkr s g q (.slice pa pn pc) (.slice ga pn gc) pn (went + 1) M rn ∧ w5.heap[qa]? = some bx ∧ ¬ M qa) := ⟨h5, (f5.block qa yl H12.out.2.2).trans H12.out.2.1, H12.out.2.2⟩
            have hbW := HD.out.2.1
            rw [HX.out.2] at hbW
            have z1 : w5.cell? ⟨qa, 1, none⟩ = some (.int .i64 rn) := by simp [World.cell?, hbW]
            have zl := cell_block z1
            have HG : Hid _ := run_gone rn HD.out.1
            rw [errV_nil rfl]
            clear h5 f5 y1 y2 y3 y4 y5 y6 y7 y8 y9 yl hbW
            go_wp2_with fail
            refine Calls.mono HG.out ?_
            clear HG
            rintro e w6 ⟨rfl, h6, f6⟩
            have HF : Hid (∃ M2, KEm w w6 r gp gkr s g q (.slice pa pn pc) (.slice ga pn gc) pn (went + 1) M2 ∧ w6.heap[qa]? = some bx ∧ ¬ M2 qa) := ⟨M, h6, (f6.block qa zl HD.out.2.2).trans HD.out.2.1, HD.out.2.2⟩
            clear h6 f6 z1 zl
            go_wp2
            go_meet
            exact ⟨went + 1, pn, pc, gc, pa, ga, by go_num, rfl, rfl, by omega, HF⟩
        have k2' : (kd == 2) = false := by simpa using k2
        by_cases k4 : kd = 4
        · subst k4
          have HJ : Hid _ := run_round H12.out.1
          go_wp2_with fail
          refine Calls.mono HJ.out ?_
          clear HJ
          rintro e w5 ⟨rfl, h5, f5⟩
          have HF : Hid (∃ M2, KEm w w5 r gp gkr s g q (.slice pa pn pc) (.slice ga pn gc) pn went M2 ∧ w5.heap[qa]? = some bx ∧ ¬ M2 qa) := ⟨M, h5, (f5.block qa yl H12.out.2.2).trans H12.out.2.1, f5.off yl H12.out.2.2⟩
          clear h5 f5 y1 y2 y3 y4 y5 y6 y7 y8 y9 yl
          go_wp2
          go_meet
          exact ⟨went, pn, pc, gc, pa, ga, rfl, rfl, rfl, by omega, HF⟩
        have k4' : (kd == 4) = false := by simpa using k4
        by_cases k5 : kd = 5
        · subst k5
          have hcut := cutNew (x := ⟨xg, xc, xa, xl, xp, xn, xt, xf⟩) HX.out.1.2.2 (H12.out.1.bel)
          have HC : Hid _ := hcut
          clear hcut k1 k2 k4
          go_wp2_with fail
          refine Calls.mono HC.out ?_
          clear HC
          rintro e w5 ⟨a', n', c', rfl, hs5, hn5, b5, hf5⟩
          obtain ⟨eg, heg⟩ : ∃ eg, eg = cut xg 30 := ⟨_, rfl⟩
          have hegs : eg.size ≤ 30 := by rw [heg]; exact cut_size xg 30
          simp only at hs5 ⊢
          rw [← heg]
          clear heg
          obtain ⟨W6, hW6⟩ : ∃ W6, W6 = w5.alloc (.cells #[.string eg, .int .i64 xc, .slice a' n' c', .bool true, .int .i64 xt] 89) := ⟨_, rfl⟩
          obtain ⟨qe, hqe⟩ : ∃ qe, qe = w5.heap.size := ⟨_, rfl⟩
          have b6 : Below w5.heap.size w5 W6 := by rw [hW6]; exact below_one _ _
          have hbe : W6.heap[qe]? = some (.cells #[.string eg, .int .i64 xc, .slice a' n' c', .bool true, .int .i64 xt] 89 (0, 0)) := by rw [hW6, hqe]; exact heap_alloc_new _ _
          have H6 : Hid (KEm w W6 r gp gkr s g q (.slice pa pn pc) (.slice ga pn gc) pn went M ∧ W6.heap[qa]? = some bx ∧ ¬ M qa ∧ W6.heap[qe]? = some (.cells #[.string eg, .int .i64 xc, .slice a' n' c', .bool true, .int .i64 xt] 89 (0, 0)) ∧ ¬ M qe ∧ StrIn W6 a' n' (cutF xf) ∧ n' ≤ 20 ∧ (∀ b, a' = some b → ¬ M b.block ∧ b.block < W6.heap.size) ∧ eg.size ≤ 30) := by
            refine ⟨(H12.out.1.below b5).below b6, (b6.block qa (Nat.lt_of_lt_of_le yl b5.size)).trans ((b5.block qa yl).trans H12.out.2.1), H12.out.2.2, hbe, fun e => ?_, strin_below hs5 b6, hn5, fun b hb => ⟨fun e => ?_, Nat.lt_of_lt_of_le (hf5 b hb).2 b6.size⟩, hegs⟩
            · have := H12.out.1.lt e; have := b5.size; omega
            · have := H12.out.1.lt e; have := (hf5 b hb).1; omega
          clear hs5 hn5 b5 hf5 hegs b6 hbe y1 y2 y3 y4 y5 y6 y7 y8 y9 yl
          go_upto_region 25 with fail
          rw [← hW6]
          try rw [← hqe]
          clear hW6 hqe
          by_cases hw0 : went = 0
          · subst hw0
            by_cases hp20 : 20 < pn
            · have hpI : (20 : Int) < (pn : Int) := by omega
              have HF : Hid (∃ M, KEm w W6 r gp gkr s g q (.slice pa pn pc) (.slice ga pn gc) pn 0 M) := ⟨M, H6.out.1⟩
              go_wp2
              go_roundg (len0 - (i + 1))
              case measure => omega
              case rel => exact ⟨i + 1, 0, pn, pc, gc, pa, ga, by go_num, rfl, rfl, rfl, by omega, by omega, by omega, rfl, HF⟩
            · have hpI : ¬ (20 : Int) < (pn : Int) := by omega
              obtain ⟨R, Rw, Cw, g1, c1, d1, n1, b1, O, G, A, PX, h1, h2, h3, h4, h5, h6, rfl⟩ := H6.out.1
              have hG0 : G = [] := List.eq_nil_of_length_eq_zero h5
              have HK : Hid (KM w W6 r gp gkr s g q (.slice pa pn pc) (.slice ga pn gc) R Rw Cw g1 c1 d1 n1 b1 O A PX (PX.map Ep.gr) ∧ Kpt Rw Cw R G A (PX.map Ep.key) ∧ PX.length = pn ∧ G = [] ∧ ∀ x ∈ PX, x.gr.size ≤ 30) := ⟨h1, h2, h3, hG0, h6⟩
              have hbq := h1.box
              have u0 : W6.cell? ⟨q, 0, none⟩ = some (.slice (some ⟨g1, 0, none⟩) n1 c1) := by simp [World.cell?, hbq]
              have u1 : W6.cell? ⟨q, 1, none⟩ = some (.slice b1 n1 d1) := by simp [World.cell?, hbq]
              have ul := cell_block u0
              have hbe := H6.out.2.2.2.1
              have v0 : W6.cell? ⟨qe, 0, none⟩ = some (.string eg) := by simp [World.cell?, hbe]
              have v1 : W6.cell? ⟨qe, 1, none⟩ = some (.int .i64 xc) := by simp [World.cell?, hbe]
              have v2 : W6.cell? ⟨qe, 2, none⟩ = some (.slice a' n' c') := by simp [World.cell?, hbe]
              have v3 : W6.cell? ⟨qe, 3, none⟩ = some (.bool true) := by simp [World.cell?, hbe]
              have v4 : W6.cell? ⟨qe, 4, none⟩ = some (.int .i64 xt) := by simp [World.cell?, hbe]
              have vl := cell_block v0
              have HPU : Hid _ := km_put h1 h2 (by rw [List.length_map]; omega) eg xc a' n' c' xt (cutF xf) H6.out.2.2.2.2.2.2.2.2 H6.out.2.2.2.2.2.1 H6.out.2.2.2.2.2.2.1 (fun b hb => ⟨fun e => (H6.out.2.2.2.2.2.2.2.1 b hb).1 (.inl (.inl e)), (H6.out.2.2.2.2.2.2.2.1 b hb).2⟩)
              have HAB : Hid (W6.heap[qa]? = some bx ∧ ¬ allB O gp gkr q (.slice pa pn pc) (.slice ga pn gc) qa ∧ W6.heap[qe]? = some (.cells #[.string eg, .int .i64 xc, .slice a' n' c', .bool true, .int .i64 xt] 89 (0, 0)) ∧ ¬ allB O gp gkr q (.slice pa pn pc) (.slice ga pn gc) qe) := ⟨H6.out.2.1, H6.out.2.2.1, H6.out.2.2.2.1, H6.out.2.2.2.2.1⟩
              have HEG : Hid (eg.size ≤ 30) := H6.out.2.2.2.2.2.2.2.2
              clear h1 h2 h3 h4 h5 h6 hG0 hbq hbe H6 H12
              go_wp2_with fail
              refine Calls.mono HPU.out ?_
              clear HPU
              rintro e w7 ⟨rfl, D, O', A', m7, k7, f7⟩
              have hb7 : w7.heap[qe]? = some (.cells #[.string eg, .int .i64 xc, .slice a' n' c', .bool true, .int .i64 xt] 89 (0, 0)) := (f7.block qe vl HAB.out.2.2.2).trans HAB.out.2.2.1
              have H7 : Hid (KM w w7 r gp gkr s g q (.slice pa pn pc) (.slice ga pn gc) (R.withCl D) Rw Cw g1 c1 d1 n1 b1 O' A' PX (PX.map Ep.gr) ∧ Kpt Rw Cw (R.withCl D) G A' (PX.map Ep.key ++ [(eg, xc)]) ∧ w7.heap[qa]? = some bx ∧ ¬ allB O' gp gkr q (.slice pa pn pc) (.slice ga pn gc) qa ∧ w7.heap[qe]? = some (.cells #[.string eg, .int .i64 xc, .slice a' n' c', .bool true, .int .i64 xt] 89 (0, 0)) ∧ ¬ allB O' gp gkr q (.slice pa pn pc) (.slice ga pn gc) qe) :=
                ⟨m7, k7, (f7.block qa (lt_blk HAB.out.1) HAB.out.2.1).trans HAB.out.1, f7.off (lt_blk HAB.out.1) HAB.out.2.1, hb7, f7.off vl HAB.out.2.2.2⟩
              have v0 : w7.cell? ⟨qe, 0, none⟩ = some (.string eg) := by simp [World.cell?, hb7]
              have v1 : w7.cell? ⟨qe, 1, none⟩ = some (.int .i64 xc) := by simp [World.cell?, hb7]
              have v2 : w7.cell? ⟨qe, 2, none⟩ = some (.slice a' n' c') := by simp [World.cell?, hb7]
              have v3 : w7.cell? ⟨qe, 3, none⟩ = some (.bool true) := by simp [World.cell?, hb7]
              have v4 : w7.cell? ⟨qe, 4, none⟩ = some (.int .i64 xt) := by simp [World.cell?, hb7]
              have vl := cell_block v0
              obtain ⟨z7, hz7⟩ : ∃ z7, z7 = w7.heap.size := ⟨_, rfl⟩
              obtain ⟨W8, hW8⟩ : ∃ W8, W8 = w7.alloc (.cells #[.string eg, .int .i64 xc, .slice a' n' c', .bool true, .int .i64 xt] 89) := ⟨_, rfl⟩
              have b8 : Below w7.heap.size w7 W8 := by rw [hW8]; exact below_one _ _
              have HRow : Hid (W8.ownsRow w.heap.size 89 5 (.slice pa pn pc) pn (PX.flatMap Ep.cells)) := by
                have := (H7.out.1.below b8).rowp
                rw [HK.out.2.2.1] at this
                exact this
              have HSRC : Hid _ := srcE w7 ⟨eg, xc, a', n', c', true, xt, cutF xf⟩ w7.heap.size rfl
              have HSz : Hid (w.heap.size ≤ W8.heap.size) := (H7.out.1.below b8).bel.size
              have H8 : Hid (KM w W8 r gp gkr s g q (.slice pa pn pc) (.slice ga pn gc) (R.withCl D) Rw Cw g1 c1 d1 n1 b1 O' A' PX (PX.map Ep.gr) ∧ w7.heap.size ≤ W8.heap.size ∧ W8.heap[qa]? = some bx ∧ W8.heap[qe]? = some (.cells #[.string eg, .int .i64 xc, .slice a' n' c', .bool true, .int .i64 xt] 89 (0, 0))) := ⟨H7.out.1.below b8, b8.size, (b8.block qa (lt_blk H7.out.2.2.1)).trans H7.out.2.2.1, (b8.block qe vl).trans hb7⟩
              clear m7 k7 f7 hb7 b8 u0 u1 ul HAB
              rw [← hW8] at HSRC

              go_wp2_with (at_builtin; rw [← hW8]; go_loud (refine wpList_own_append5 _ rfl _ _ 87 87 rfl w.heap.size 89 iE _ 64 Tryz.underlying87 hiE hzE0 hzE1 hzE2 rfl _ pn (PX.flatMap Ep.cells) rfl HRow.out _ 1 (Ep.cells ⟨eg, xc, a', n', c', true, xt, cutF xf⟩) rfl HSRC.out (by unfold maxLen; omega) (by omega) (by have := HSz.out; first | omega | (simp; omega)) ?_))
              intro v9 w9 ha9
              try rw [← hW8] at ha9
              obtain ⟨D9, m9, f9⟩ := H8.out.1.addP H7.out.2.1.ok.any (x := ⟨eg, xc, a', n', c', true, xt, cutF xf⟩) (by rw [HK.out.2.2.1]; exact ha9)
              obtain ⟨a9', c9', hv9⟩ := ha9.shape
              subst hv9
              have hb9 : w9.heap[qe]? = some (.cells #[.string eg, .int .i64 xc, .slice a' n' c', .bool true, .int .i64 xt] 89 (0, 0)) := (f9.block qe (lt_blk H8.out.2.2.2) H7.out.2.2.2.2.2).trans H8.out.2.2.2
              have H9 : Hid (KM w w9 r gp gkr s g q (.slice a9' (pn + 1) c9') (.slice ga pn gc) ((R.withCl D).withCl D9) Rw Cw g1 c1 d1 n1 b1 O' A' (PX ++ [⟨eg, xc, a', n', c', true, xt, cutF xf⟩]) (PX.map Ep.gr) ∧ w9.heap[qa]? = some bx ∧ ¬ allB O' gp gkr q (.slice a9' (pn + 1) c9') (.slice ga pn gc) qa) :=
                ⟨m9, (f9.block qa (lt_blk H8.out.2.2.1) H7.out.2.2.2.1).trans H8.out.2.2.1, f9.off (lt_blk H8.out.2.2.1) H7.out.2.2.2.1⟩
              have v0 : w9.cell? ⟨qe, 0, none⟩ = some (.string eg) := by simp [World.cell?, hb9]
              have vl := cell_block v0
              obtain ⟨W13, hW13⟩ : ∃ W13, W13 = w9.alloc (.cells #[.string eg] 9) := ⟨_, rfl⟩
              have b13 : Below w9.heap.size w9 W13 := by rw [hW13]; exact below_one _ _
              have HRow2 : Hid (W13.ownsRow w.heap.size 9 1 (.slice ga pn gc) pn ((PX.map Ep.gr).map Value.string)) := by
                have := (H9.out.1.below b13).rowg
                rw [List.length_map, HK.out.2.2.1] at this
                exact this
              have HSR2 : Hid (Src Tryz.prog 1 55 (.slice (some ⟨w9.heap.size, 0, none⟩) 1 1) 1 [.string eg] W13) := by
                rw [hW13]
                exact srcStr _ [.string eg] _ (heap_alloc_new _ _) rfl (by simp [Value.oneCell'])
              have HSz2 : Hid (w.heap.size ≤ W13.heap.size) := (H9.out.1.below b13).bel.size
              have H13 : Hid (KM w W13 r gp gkr s g q (.slice a9' (pn + 1) c9') (.slice ga pn gc) ((R.withCl D).withCl D9) Rw Cw g1 c1 d1 n1 b1 O' A' (PX ++ [⟨eg, xc, a', n', c', true, xt, cutF xf⟩]) (PX.map Ep.gr) ∧ W13.heap[qa]? = some bx) := ⟨H9.out.1.below b13, (b13.block qa (lt_blk H9.out.2.1)).trans H9.out.2.1⟩
              clear ha9 m9 f9 hb9 b13 v1 v2 v3 v4 HRow HSRC HSz H8 hW8
              go_wp2_with (at_builtin; rw [← hW13]; go_loud (refine wpList_own_append _ rfl _ _ 55 55 rfl w.heap.size 9 iS _ 16 Tryz.underlying55 hiS hzS0 hzS1 hzS2 rfl _ _ _ rfl HRow2.out _ 1 _ rfl HSR2.out (by unfold maxLen; omega) (by omega) (by have := HSz2.out; first | omega | (simp; omega)) ?_))
              intro v14 w14 ha14
              try rw [← hW13] at ha14
              obtain ⟨D14, m14, f14⟩ := H13.out.1.addG H7.out.2.1.ok.any (x := eg) rfl (by rw [List.length_map, HK.out.2.2.1, List.map_map]; exact ha14)
              obtain ⟨a14, c14, hv14⟩ := ha14.shape
              subst hv14
              have HF : Hid (∃ M2, KEm w w14 r gp gkr s g q (.slice a9' (pn + 1) c9') (.slice a14 (pn + 1) c14) (pn + 1) 0 M2 ∧ w14.heap[qa]? = some bx ∧ ¬ M2 qa) := by
                refine ⟨_, ⟨_, Rw, Cw, g1, c1, d1, n1, b1, O', [], A', PX ++ [⟨eg, xc, a', n', c', true, xt, cutF xf⟩], by rw [List.map_append]; exact m14, ?_, by simp [HK.out.2.2.1], by omega, rfl, fun x hx => ?_, rfl⟩, (f14.block qa (lt_blk H13.out.2) H9.out.2.2).trans H13.out.2, f14.off (lt_blk H13.out.2) H9.out.2.2⟩
                · rw [List.map_append]
                  have hk := (H7.out.2.1.withCl D9).withCl D14
                  rw [HK.out.2.2.2.1] at hk
                  exact hk
                · rcases List.mem_append.1 hx with e | e
                  · exact HK.out.2.2.2.2 x e
                  · rw [List.mem_singleton.1 e]; exact HEG.out
              clear ha14 m14 f14 HRow2 HSR2 HSz2 H13 H9 H7 hW13 v0 vl
              go_wp2
              go_meet
              exact ⟨0, pn + 1, c9', c14, a9', a14, rfl, rfl, rfl, by omega, HF⟩
          · have hw1 : went = 1 := by omega
            subst hw1
            have HF : Hid (∃ M, KEm w W6 r gp gkr s g q (.slice pa pn pc) (.slice ga pn gc) pn 1 M) := ⟨M, H6.out.1⟩
            go_wp2
            go_roundg (len0 - (i + 1))
            case measure => omega
            case rel => exact ⟨i + 1, 1, pn, pc, gc, pa, ga, by go_num, rfl, rfl, rfl, by omega, by omega, by omega, rfl, HF⟩
        have k5' : (kd == 5) = false := by simpa using k5
        have HF : Hid (∃ M2, KEm w W12 r gp gkr s g q (.slice pa pn pc) (.slice ga pn gc) pn went M2 ∧ W12.heap[qa]? = some bx ∧ ¬ M2 qa) := ⟨M, H12.out⟩
        clear k1 k2 k4 k5
        go_wp2
        go_meet
        exact ⟨went, pn, pc, gc, pa, ga, rfl, rfl, rfl, by omega, HF⟩
      case rest =>
        rename World => wx
        obtain ⟨went2, pn2, pc2, gc2, pa2, ga2, rfl, rfl, rfl, hw2, HB⟩ := hcut
        clear H12 y1 y2 y3 y4 y5 y6 y7 y8 y9 yl
        obtain ⟨M2, hke, hbx2, _⟩ := HB.out
        have H13 : Hid (KEm w wx r gp gkr s g q (.slice pa2 pn2 pc2) (.slice ga2 pn2 gc2) pn2 went2 M2) := hke
        rw [HX.out.2] at hbx2
        have y4 : wx.cell? ⟨qa, 4, none⟩ = some (.int .i64 kd) := by simp [World.cell?, hbx2]
        have yl := cell_block y4
        clear HB hke hbx2
        go_upto_region 30 with fail
        go_cut [121] (fun v wy => ∃ bb : Bool, v = .bool bb ∧ (bb = false → went2 ≤ 1) ∧ wy = wx)
        case first =>
          by_cases h6 : kd = 6
          · subst h6
            go_wp2
            go_meet
            exact ⟨true, rfl, by simp, rfl⟩
          · have h6' : (kd == 6) = false := by simpa using h6
            clear h6
            by_cases hw : went2 = 2
            · subst hw
              go_wp2
              go_meet
              exact ⟨true, by simp, by simp, rfl⟩
            · have hw' : ((went2 : Int) == 2) = false := by simp; omega
              have hw1 : went2 ≤ 1 := by omega
              clear hw
              go_wp2
              go_meet
              exact ⟨false, by first | (simp; done) | (simp; omega), fun _ => hw1, rfl⟩
        rename World => wy
        obtain ⟨bb, rfl, hbb, hwy⟩ := hcut
        subst wy
        cases bb with
        | false =>
          have hw1 := hbb rfl
          have HF : Hid (∃ M, KEm w wx r gp gkr s g q (.slice pa2 pn2 pc2) (.slice ga2 pn2 gc2) pn2 went2 M) := ⟨M2, H13.out⟩
          clear hbb y4 yl
          go_wp2
          go_roundg (len0 - (i + 1))
          case measure => omega
          case rel => exact ⟨i + 1, went2, pn2, pc2, gc2, pa2, ga2, by go_num, rfl, rfl, rfl, by omega, by omega, hw1, rfl, HF⟩
        | true =>
          clear hbb y4 yl
          obtain ⟨R, Rw, Cw, g1, c1, d1, n1, b1, O, G, A, PX, h1, h2, h3, h4, h5, h6, rfl⟩ := H13.out
          have HK : Hid (KM w wx r gp gkr s g q (.slice pa2 pn2 pc2) (.slice ga2 pn2 gc2) R Rw Cw g1 c1 d1 n1 b1 O A PX (PX.map Ep.gr) ∧ Kpt Rw Cw R G A (PX.map Ep.key) ∧ PX.length = pn2 ∧ pn2 ≤ 21 ∧ G.length ≤ 2 ∧ ∀ x ∈ PX, x.gr.size ≤ 30) := ⟨h1, h2, h3, h4, by omega, h6⟩
          have hpn : pn2 ≤ 21 := h4
          clear h1 h2 h3 h4 h5 h6 H13
          have HOF : Hid _ := km_of HK.out.1
          go_wp2_with fail
          refine Calls.mono HOF.out ?_
          clear HOF
          rintro e w7 ⟨C2, g2, b2, c2, d2, n2, rfl, hc2, b7⟩
          obtain ⟨W8, hW8⟩ : ∃ W8, W8 = w7.alloc (.cells #[.slice (some ⟨g2, 0, none⟩) n2 c2, .slice b2 n2 d2] 50) := ⟨_, rfl⟩
          obtain ⟨q4, hq4⟩ : ∃ q4, q4 = w7.heap.size := ⟨_, rfl⟩
          have b8 : Below w7.heap.size w7 W8 := by rw [hW8]; exact below_one _ _
          have hb8 : W8.heap[q4]? = some (.cells #[.slice (some ⟨g2, 0, none⟩) n2 c2, .slice b2 n2 d2] 50 (0, 0)) := by rw [hW8, hq4]; exact heap_alloc_new _ _
          have H8 : Hid (KM w W8 r gp gkr s g q (.slice pa2 pn2 pc2) (.slice ga2 pn2 gc2) R Rw Cw g1 c1 d1 n1 b1 O A PX (PX.map Ep.gr) ∧ CAo W8 R C2 g2 c2 d2 n2 b2 (allB O gp gkr q (.slice pa2 pn2 pc2) (.slice ga2 pn2 gc2)) ∧ W8.heap[q4]? = some (.cells #[.slice (some ⟨g2, 0, none⟩) n2 c2, .slice b2 n2 d2] 50 (0, 0)) ∧ ¬ allB O gp gkr q (.slice pa2 pn2 pc2) (.slice ga2 pn2 gc2) q4) :=
            ⟨(HK.out.1.below b7).below b8, hc2.below b8, hb8, fun e => by have := (HK.out.1.alt e).2; have := b7.size; omega⟩
          have hbq := H8.out.1.box
          have u0 : W8.cell? ⟨q, 0, none⟩ = some (.slice (some ⟨g1, 0, none⟩) n1 c1) := by simp [World.cell?, hbq]
          have u1 : W8.cell? ⟨q, 1, none⟩ = some (.slice b1 n1 d1) := by simp [World.cell?, hbq]
          have ul := cell_block u0
          have v0 : W8.cell? ⟨q4, 0, none⟩ = some (.slice (some ⟨g2, 0, none⟩) n2 c2) := by simp [World.cell?, hb8]
          have v1 : W8.cell? ⟨q4, 1, none⟩ = some (.slice b2 n2 d2) := by simp [World.cell?, hb8]
          have vl := cell_block v0
          have HPL : Hid _ := km_plan H8.out.1 H8.out.2.1.at' ga2 pn2 gc2 rfl (by rw [List.length_map]; exact HK.out.2.2.1.symm) (by omega) (fun s hs => by
            obtain ⟨x, hx, rfl⟩ := List.mem_map.1 hs
            have := HK.out.2.2.2.2.2 x hx
            omega)
          clear hc2 b7 b8 hb8 hbq
          go_upto_region 32 with fail
          rw [← hW8]
          try rw [← hq4]
          clear hW8 hq4
          go_wp2_with fail
          refine Calls.mono HPL.out ?_
          clear HPL u0 u1 ul v0 v1 vl
          rintro e w9 ⟨⟨v9, L, rfl, hpl, hl3, hrow⟩, b9⟩
          obtain ⟨la, lc, rfl⟩ := own_len3 hrow
          obtain ⟨nl, hnl⟩ : ∃ nl, nl = L.length := ⟨_, rfl⟩
          rw [← hnl] at hrow hl3 ⊢
          have H9 : Hid (KM w w9 r gp gkr s g q (.slice pa2 pn2 pc2) (.slice ga2 pn2 gc2) R Rw Cw g1 c1 d1 n1 b1 O A PX (PX.map Ep.gr) ∧ CAo w9 R C2 g2 c2 d2 n2 b2 (allB O gp gkr q (.slice pa2 pn2 pc2) (.slice ga2 pn2 gc2)) ∧ w9.heap[q4]? = some (.cells #[.slice (some ⟨g2, 0, none⟩) n2 c2, .slice b2 n2 d2] 50 (0, 0)) ∧ PlanIs Rw R Cw C2 (PX.map Ep.gr) L) :=
            ⟨H8.out.1.below b9, H8.out.2.1.below b9, (b9.block _ (lt_blk H8.out.2.2.1)).trans H8.out.2.2.1, hpl⟩
          have HDO : Hid _ := km_do H9.out.1 HK.out.2.1.ok (by rw [List.length_map, HK.out.2.2.1]; omega) la nl lc L hnl.symm hl3 hrow (fun b hb e => by
            have := (hrow.lt b hb).1
            have := (H8.out.1.stm.rng b e).2
            omega)
          clear hpl hl3 hrow b9 hnl
          go_wp2_with fail
          refine Calls.mono HDO.out ?_
          clear HDO
          rintro e w10 ⟨rfl, D, O', m10, f10⟩
          have hb10 : w10.heap[q4]? = some (.cells #[.slice (some ⟨g2, 0, none⟩) n2 c2, .slice b2 n2 d2] 50 (0, 0)) := (f10.block q4 (lt_blk H9.out.2.2.1) H8.out.2.2.2).trans H9.out.2.2.1
          have H10 : Hid (KM w w10 r gp gkr s g q (.slice pa2 pn2 pc2) (.slice ga2 pn2 gc2) (R.withCl D) Rw Cw g1 c1 d1 n1 b1 O' (movesA A L) PX (PX.map Ep.gr) ∧ CAo w10 R C2 g2 c2 d2 n2 b2 (allB O' gp gkr q (.slice pa2 pn2 pc2) (.slice ga2 pn2 gc2)) ∧ w10.heap[q4]? = some (.cells #[.slice (some ⟨g2, 0, none⟩) n2 c2, .slice b2 n2 d2] 50 (0, 0)) ∧ ¬ allB O' gp gkr q (.slice pa2 pn2 pc2) (.slice ga2 pn2 gc2) q4) :=
            ⟨m10, H9.out.2.1.fr f10, hb10, f10.off (lt_blk H9.out.2.2.1) H8.out.2.2.2⟩
          have v0 : w10.cell? ⟨q4, 0, none⟩ = some (.slice (some ⟨g2, 0, none⟩) n2 c2) := by simp [World.cell?, hb10]
          have v1 : w10.cell? ⟨q4, 1, none⟩ = some (.slice b2 n2 d2) := by simp [World.cell?, hb10]
          have vl := cell_block v0
          have HTR : Hid _ := km_trim H10.out.1 (moves_okay L HK.out.2.1.ok).1 (fun p hp => by
            obtain ⟨x, hx, rfl⟩ := List.mem_map.1 hp
            have := HK.out.2.2.2.2.2 x hx
            show x.gr.size ≤ 200
            omega) H10.out.2.1
          clear m10 f10 hb10
          go_wp2_with fail
          refine Calls.mono HTR.out ?_
          clear HTR v0 v1 vl
          rintro e w11 ⟨rfl, D2, O2, m11, f11⟩
          have hb11 : w11.heap[q4]? = some (.cells #[.slice (some ⟨g2, 0, none⟩) n2 c2, .slice b2 n2 d2] 50 (0, 0)) := (f11.block q4 (lt_blk H10.out.2.2.1) H10.out.2.2.2).trans H10.out.2.2.1
          have hkp := HK.out.2.1.plan HK.out.2.2.2.2.1 (L := L) HK.out.1.cir.at'.cir (by have := HK.out.1.cir.at'.len; have := HK.out.1.cir.at'.n4; omega) HK.out.1.inv H8.out.2.1.at'.cir (by rw [List.map_map]; exact H9.out.2.2.2)
          have hc11 := H10.out.2.1.fr f11
          obtain ⟨D3, m13, f13⟩ := m11.setQ hkp.1.ok.any hc11
          obtain ⟨w13, hw13⟩ : ∃ w13, w13 = (w11.setCell ⟨q, 0, none⟩ (.slice (some ⟨g2, 0, none⟩) n2 c2)).setCell ⟨q, 1, none⟩ (.slice b2 n2 d2) := ⟨_, rfl⟩
          rw [← hw13] at m13 f13
          have hq4 : w13.heap[q4]? = some (.cells #[.slice (some ⟨g2, 0, none⟩) n2 c2, .slice b2 n2 d2] 50 (0, 0)) := (f13.block q4 (lt_blk hb11) (f11.off (lt_blk H10.out.2.2.1) H10.out.2.2.2)).trans hb11
          obtain ⟨R5, hR5⟩ : ∃ R5, R5 = ((R.withCl D).withCl D2).withCl D3 := ⟨_, rfl⟩
          rw [← hR5] at m13
          obtain ⟨A5, hA5⟩ : ∃ A5, A5 = trimA R C2 (movesA A L) := ⟨_, rfl⟩
          rw [← hA5] at m13 hkp
          have H14 : Hid (KM w w13 r gp gkr s g q (.slice pa2 pn2 pc2) (.slice ga2 pn2 gc2) R5 R C2 g2 c2 d2 n2 b2 O2 A5 PX (PX.map Ep.gr) ∧ Kpt R C2 R5 [] A5 (PX.map Ep.key) ∧ w13.heap[q4]? = some (.cells #[.slice (some ⟨g2, 0, none⟩) n2 c2, .slice b2 n2 d2] 50 (0, 0)) ∧ (∀ x ∈ PX, ∀ n ∈ keepF R C2 x.gr, HasQ A5 n (x.gr, x.ch))) :=
            ⟨m13, by rw [hR5]; exact ((hkp.1.withCl D).withCl D2).withCl D3, hq4, fun x hx n hn => hkp.2 x.key (List.mem_map_of_mem hx) n hn⟩
          have hbq := m11.box
          have u0 : w11.cell? ⟨q, 0, none⟩ = some (.slice (some ⟨g1, 0, none⟩) n1 c1) := by simp [World.cell?, hbq]
          have u1 : w11.cell? ⟨q, 1, none⟩ = some (.slice b1 n1 d1) := by simp [World.cell?, hbq]
          have uf : ∀ o, w11.frozen? ⟨q, o, none⟩ = false := fun o => by simp [World.frozen?, hbq]
          have ul := cell_block u0
          have v0 : w11.cell? ⟨q4, 0, none⟩ = some (.slice (some ⟨g2, 0, none⟩) n2 c2) := by simp [World.cell?, hb11]
          have v1 : w11.cell? ⟨q4, 1, none⟩ = some (.slice b2 n2 d2) := by simp [World.cell?, hb11]
          have vl := cell_block v0
          clear m11 f11 hb11 hkp hc11 m13 f13 hq4 hbq hR5 hA5 H8 H9 H10
          go_upto_region 37 with fail
          rw [← hw13]
          clear hw13 u0 u1 uf ul v0 v1 vl
          go_wp2
          go_loopg [137] pn2 (fun kz sv wz => ∃ j : Nat, sv = .int .i64 j ∧ j ≤ pn2 ∧ kz = pn2 - j ∧ Hid (Below w13.heap.size w13 wz))
          case atStart => exact ⟨0, rfl, Nat.zero_le _, rfl, Below.refl _ _⟩
          case round =>
            rename World => wz
            obtain ⟨j, rfl, hj, rfl, HB⟩ := hrel
            by_cases hltj : j < pn2
            · have hltjI : (j : Int) < (pn2 : Int) := by omega
              have hKz := H14.out.1.below HB.out
              have hrz := hKz.rowp
              rw [HK.out.2.2.1] at hrz
              obtain ⟨bz, hbz, hbzl, e0, e1, e2, e3, e4⟩ := rowE_read hrz HK.out.2.2.1 hltj
              subst hbz
              have hxm : PX.getD j ep0 ∈ PX := getD_memL ep0 PX j (by rw [HK.out.2.2.1]; exact hltj)
              obtain ⟨x, hx⟩ : ∃ x, x = PX.getD j ep0 := ⟨_, rfl⟩
              rw [← hx] at e0 e1 e2 e3 e4 hxm
              clear hx
              obtain ⟨yg, yc, ya, yln, yp, yn, yt, yf⟩ := x
              simp only at e0 e1 e2 e3 e4
              obtain ⟨W15, hW15⟩ : ∃ W15, W15 = wz.alloc (.cells #[.string yg, .int .i64 yc, .slice ya yln yp, .bool yn, .int .i64 yt] 89) := ⟨_, rfl⟩
              obtain ⟨q6, hq6⟩ : ∃ q6, q6 = wz.heap.size := ⟨_, rfl⟩
              have b15 : Below wz.heap.size wz W15 := by rw [hW15]; exact below_one _ _
              have hb15 : W15.heap[q6]? = some (.cells #[.string yg, .int .i64 yc, .slice ya yln yp, .bool yn, .int .i64 yt] 89 (0, 0)) := by rw [hW15, hq6]; exact heap_alloc_new _ _
              have hb4 : W15.heap[q4]? = some (.cells #[.slice (some ⟨g2, 0, none⟩) n2 c2, .slice b2 n2 d2] 50 (0, 0)) := (b15.block _ (Nat.lt_of_lt_of_le (lt_blk H14.out.2.2.1) HB.out.size)).trans ((HB.out.block _ (lt_blk H14.out.2.2.1)).trans H14.out.2.2.1)
              have v0 : W15.cell? ⟨q4, 0, none⟩ = some (.slice (some ⟨g2, 0, none⟩) n2 c2) := by simp [World.cell?, hb4]
              have v1 : W15.cell? ⟨q4, 1, none⟩ = some (.slice b2 n2 d2) := by simp [World.cell?, hb4]
              have vl := cell_block v0
              have s0 : W15.cell? ⟨q6, 0, none⟩ = some (.string yg) := by simp [World.cell?, hb15]
              have sl := cell_block s0
              have hall := H14.out.2.2.2 _ hxm
              have H15 : Hid (Below w13.heap.size w13 W15 ∧ W15.heap[q6]? = some (.cells #[.string yg, .int .i64 yc, .slice ya yln yp, .bool yn, .int .i64 yt] 89 (0, 0)) ∧ (∀ n ∈ keepF R C2 yg, HasQ A5 n (yg, yc))) := ⟨HB.out.trans (b15.mono HB.out.size), hb15, hall⟩
              have HKE : Hid _ := ((hKz.below b15).cir.at').keep yg (by have := HK.out.2.2.2.2.2 _ hxm; show yg.size ≤ 200; have h2 : yg.size ≤ 30 := this; omega)
              have HKN : Hid ((keepF R C2 yg).length = 3) := (hKz.cir.at'.keep_nd yg).2
              clear hKz hrz hxm b15 hb15 hb4 hall
              go_upto_region 40 with fail
              rw [← hW15]
              try rw [← hq6]
              clear hW15 hq6 e0 e1 e2 e3 e4 hbzl
              go_wp2_with fail
              refine Calls.mono HKE.out ?_
              clear HKE v0 v1 vl s0 sl
              rintro e w16 ⟨⟨ka, kc, rfl, hin, _⟩, b16⟩
              have H16 : Hid (Below w13.heap.size w13 w16 ∧ w16.heap[q6]? = some (.cells #[.string yg, .int .i64 yc, .slice ya yln yp, .bool yn, .int .i64 yt] 89 (0, 0)) ∧ InIn w16 ka 3 (keepF R C2 yg)) := ⟨H15.out.1.trans (b16.mono H15.out.1.size), (b16.block _ (lt_blk H15.out.2.1)).trans H15.out.2.1, hin⟩
              clear hin b16 HB
              go_wp2
              go_loopg [146] 3 (fun kq sv wq => ∃ l : Nat, sv = .int .i64 l ∧ l ≤ 3 ∧ kq = 3 - l ∧ Hid (Below w16.heap.size w16 wq))
              case atStart => exact ⟨0, rfl, by omega, rfl, Below.refl _ _⟩
              case round =>
                rename World => wq
                obtain ⟨l, rfl, hl, rfl, HB⟩ := hrel
                by_cases hltl : l < 3
                · have hltlI : (l : Int) < 3 := by omega
                  obtain ⟨mb, mo, hmb, hml, _, hmc⟩ := (H16.out.2.2.below (Nat.le_refl _) HB.out).one (v := Value.int .i64) (fun _ => rfl) (i := l) hltl
                  subst hmb
                  have hmem : (keepF R C2 yg).getD l 0 ∈ keepF R C2 yg := by rw [List.getD_eq_getElem?_getD, List.getElem?_eq_getElem (by rw [HKN.out]; exact hltl)]; simp
                  obtain ⟨y, hy⟩ : ∃ y, y = (keepF R C2 yg).getD l 0 := ⟨_, rfl⟩
                  rw [← hy] at hmc hmem
                  clear hy
                  have hbb : wq.heap[q6]? = some (.cells #[.string yg, .int .i64 yc, .slice ya yln yp, .bool yn, .int .i64 yt] 89 (0, 0)) := (HB.out.block _ (lt_blk H16.out.2.1)).trans H16.out.2.1
                  have s0 : wq.cell? ⟨q6, 0, none⟩ = some (.string yg) := by simp [World.cell?, hbb]
                  have s1 : wq.cell? ⟨q6, 1, none⟩ = some (.int .i64 yc) := by simp [World.cell?, hbb]
                  have s2 : wq.cell? ⟨q6, 2, none⟩ = some (.slice ya yln yp) := by simp [World.cell?, hbb]
                  have s3 : wq.cell? ⟨q6, 3, none⟩ = some (.bool yn) := by simp [World.cell?, hbb]
                  have s4 : wq.cell? ⟨q6, 4, none⟩ = some (.int .i64 yt) := by simp [World.cell?, hbb]
                  have sl := cell_block s0
                  have hbq : Below w13.heap.size w13 wq := H16.out.1.trans (HB.out.mono H16.out.1.size)
                  have HHA : Hid _ := has21_any y yg yc ya yln yp yn yt wq (H14.out.1.stm.below hbq) (has_of (H15.out.2.2 y hmem) H14.out.2.1.ok.any) (by
                    have := H14.out.1.stm.asc.len H14.out.2.1.ok.keys y
                    rw [List.length_map, HK.out.2.2.1] at this
                    omega)
                  clear hmem hbb hbq
                  go_wp2_with fail
                  refine Calls.mono HHA.out ?_
                  clear HHA s0 s1 s2 s3 s4 sl hmc hml
                  rintro e w17 ⟨rfl, b17⟩
                  have H17 : Hid (Below w16.heap.size w16 w17) := HB.out.trans (b17.mono HB.out.size)
                  clear b17 HB
                  go_wp2
                  go_roundg (3 - (l + 1))
                  case measure => omega
                  case rel => exact ⟨l + 1, by go_num, by omega, rfl, H17⟩
                · obtain rfl : l = 3 := by omega
                  have H17 : Hid (Below w13.heap.size w13 wq) := H16.out.1.trans (HB.out.mono H16.out.1.size)
                  clear HB H16 H15
                  go_wp2
                  go_roundg (pn2 - (j + 1))
                  case measure => omega
                  case rel => exact ⟨j + 1, by go_num, by omega, rfl, H17⟩
            · obtain rfl : j = pn2 := by omega
              have HF : Hid (∃ M, KEm w wz r gp gkr s g q (.slice pa2 j pc2) (.slice ga2 j gc2) j 0 M) := ⟨_, R5, R, C2, g2, c2, d2, n2, b2, O2, [], A5, PX, H14.out.1.below HB.out, H14.out.2.1, HK.out.2.2.1, HK.out.2.2.2.1, rfl, HK.out.2.2.2.2.2, rfl⟩
              clear HB H14
              go_wp2
              go_roundg (len0 - (i + 1))
              case measure => omega
              case rel => exact ⟨i + 1, 0, j, pc2, gc2, pa2, ga2, by go_num, rfl, rfl, rfl, by omega, by omega, by omega, rfl, HF⟩

/-! ### The row's step -/
set_option maxRecDepth 100000 in
theorem lifted (os : Os) (started : os.Started) (H : Type) (enc : TypeId × Value → H) :
    ReturnsInHanded {} Tryz.checked os 7 .any (fun w args => (Rows.rdvKeptSpec.pre enc Tryz.prog Tryz.f7 [] false w args ∧ laidMetH Tryz.prog Rows.rdvKeptRow.laid w) ∧ sizedMet enc Tryz.prog Tryz.f7 (OpenSpec.ofChange Rows.rdvKeptSpec) false w args) (Rows.rdvKeptSpec.post enc Tryz.prog Tryz.f7 false true false false) := by
  refine returnsInHanded_of_change_and (C := Tryz.checked) (X := fun w _ => laidMetH Tryz.prog Rows.rdvKeptRow.laid w) (fun _ _ _ hh h => h.of_heap hh) own started (by kernel_rfl) Tryz.func7
    (ChangeSpec.witness_at (enc := enc) (C := Tryz.checked) (os := os) (X := fun w _ => laidMetH Tryz.prog Rows.rdvKeptRow.laid w) false ({ World.holding Tryz.prog os ⟨#[], #[], []⟩ with heap := (World.holding Tryz.prog os ⟨#[], #[], []⟩).heap.modify 0 fun | .cells _ t frozen => .cells #[.iface 259 (.agg #[.pointer (some ⟨1, 45, none⟩)])] t frozen | o => o }) #[.slice none 0 0] 8 rfl (by kernel_rfl) (by kernel_rfl) (by kernel_rfl) (by kernel_rfl) (by kernel_rfl) (laidMetH_of_parts (laidMet_nil _ _) (by kernel_rfl))) ?_
  intro W base args ds gs before hval0 hW _ _ hL _
  have hval : ∀ (j : Nat) t v, Tryz.f7.params[j]? = some t → args[j]? = some v → Value.okWide Tryz.prog W .any base t v := hval0
  have hW' := hW
  obtain ⟨p, q, hA0, hV, rfl, hfz, hnd⟩ := hW
  have hA : DataW.TrodAll enc Tryz.prog W 0 (fun _ => true) true Tryz.f7.params.toList args.toList ds p := hA0
  rw [Tryz.params7] at hA hval
  obtain ⟨v0, vs0, d0, ds0, p0, q0, hargs, rfl, rfl, h0, r0⟩ := trodAll_cons hA
  obtain ⟨rfl, rfl, rfl⟩ := trodAll_nil r0
  obtain rfl : args = #[v0] := by cases args; simp_all
  obtain ⟨rfl, rfl⟩ := trodVars_none hV
  obtain ⟨a0, len0, cap0, rfl⟩ := okWide_slice Tryz.underlying84 (hval 0 84 v0 rfl rfl)
  have k0 := h0
  have lt0 : ∀ x ∈ p0, x.block < W.heap.size := by obtain ⟨m, hm⟩ := k0; exact DataW.trod_lt m _ _ _ hm
  obtain ⟨t0, w0⟩ : ∃ ts, InRow 10 Ac21.cells (Ac21.ok W) ac210 W a0 len0 ts := by
    obtain ⟨fuel, hf⟩ := h0
    exact inrow_of 10 Ac21.cells (Ac21.ok W) ac210 84 91 Tryz.underlying84 cellsAc21 (by omega) lenAc21 (fun n cs x => ac21_of n cs x) hf
  clear hA0 hval0
  have hE := handle_of_laid hL
  refine (walk a0 len0 cap0 t0 W hE w0).mono fun e W' ⟨he, bel⟩ => ?_
  subst he
  exact ⟨_, rfl, _, _, _, [], _, [], hW', trodAll_mk1 (shut_bool Tryz.underlying4 _), (trodAll_cons_mk (Below.trod laidOut (by kernel_rfl) (of_decide_eq_true (by kernel_rfl)) k0 bel lt0) trodAll_mk0), rfl, bel.frame _, fun h => by cases h⟩

theorem over : Rows.rdvKeptRow.holds Tryz.pinned (OpenSpec.ofChange Rows.rdvKeptSpec) :=
  OpenClaim.holds_of_wide 7 Tryz.f7 rfl rfl rfl rfl rfl rfl rfl ⟨rfl, rfl, rfl, rfl, rfl⟩ rfl rfl rfl rfl rfl (by kernel_rfl) Tryz.func7 (by kernel_rfl)
    (of_decide_eq_true (by kernel_rfl)) (by unfold Func.isWrapper; first | (rw [if_pos (by decide +kernel)]; kernel_rfl) | (rw [if_neg (by decide +kernel)]; exact ⟨rfl, rfl⟩))
    (fun os started H enc _ => lifted os started H enc)

theorem card : Rows.RdvKeptCardSaid :=
  Claim7.holds_tied_plain_at .later [] [.handle] true (true, "a510ebdd746ea4e7bc88118e1607cd1f97c2f7db3547122bd42d2837063a2fe1") true
    over (fun _ h => by cases h) (by kernel_rfl) (fun _ h => by cases h) rdvKept_row_tie rfl ⟨rfl, rfl⟩ (by kernel_rfl) rfl
    (fun f fn hf hfn => by
      obtain rfl : f = 7 := Option.some.inj ((show Tryz.prog.funcNamed "wigwag/wigwaglaw21.RdvKept" = some 7 by kernel_rfl).symm.trans hf) |>.symm
      obtain rfl : fn = Tryz.f7 := (Option.some.inj (Tryz.func7.symm.trans hfn)).symm
      exact ⟨by kernel_rfl, fun j t ht => by
        rw [Tryz.params7] at ht
        have hall : ∀ t ∈ ([84] : List TypeId), Tryz.prog.wantsStandIn t = false := by
          intro t ht
          simp only [List.mem_cons, List.not_mem_nil, or_false] at ht
          subst ht; kernel_rfl
        exact hall t (by simpa using List.mem_of_getElem? (l := ([84] : List TypeId)) (i := j) (by simpa using ht))⟩)
    (by kernel_rfl)

end Go.Proofs.YtmajlldfiiokoaaGreatDoor.rdvKept

namespace Go.Proofs.YtmajlldfiiokoaaGreatDoor
/-- Proved: for every list of calls, of which the first 30 are made: as long as no more than two members go between two plans that are done, each wish that was put is at all keepers of its group; errors.errorType being laid as the program's text lays it (the card's tie, over the pruned copy). -/
theorem rdvKept_holds : Rows.RdvKeptCardSaid := rdvKept.card
#print axioms rdvKept_holds
end Go.Proofs.YtmajlldfiiokoaaGreatDoor
