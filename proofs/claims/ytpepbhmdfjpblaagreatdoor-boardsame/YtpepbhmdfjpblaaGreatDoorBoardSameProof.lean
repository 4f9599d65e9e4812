/- Proved: for every two events, BoardSame answers true (an event is the same as itself, and as another one just where values and payload are the same), the library's variables being laid as the program's text lays them (the card's tie).
  The frame is the guide's own shell (proof-skeleton.mjs) at this function; the walk and all ahead of it are mine. -/
import Derived.Test.YtpepbhmdfjpblaaGreatDoorRows
import Derived.Test.YtpepbhmdfjpblaaGreatDoorJoinBkDo
import Derived.Test.YtpepbhmdfjpblaaGreatDoorValEv
import Derived.Deep.CutBlock
import Derived.Deep.DeepCutAuto
import Derived.Deep.LoopGhost
import Derived.WalkKit
import Derived.WalkLawsBesides
import Derived.ProofKit
import Derived.OpenShut
import Derived.ChangeSame
import Derived.ChangeVars
import Derived.JoinedOf
import Derived.RowKit
import Derived.RowKitTokens
import Derived.LaidLaws
import Derived.LaidHandle
import Derived.Stop.Joined
import Derived.SevenTiedAt
import Derived.Test.YtpepbhmdfjpblaaGreatDoorTie
import Derived.Test.YtpepbhmdfjpblaaGreatDoorCards
import Derived.ShutString
import Derived.ChangeOld
import Derived.Below
namespace Go.Proofs.YtpepbhmdfjpblaaGreatDoor.boardSame
open Go.ChangeShapes Go.WideShapes Go.ChangeAt Go.RowKit
open Go.ChangeMaps (open_string shut_string)
set_option linter.unusedVariables false

theorem own : ownKnob Tryz.prog.godebug = none := by kernel_rfl
theorem laidOut : laidOutB Tryz.prog = true := by kernel_rfl


/-! ### STEP 1: the walk -/
set_option maxRecDepth 100000 in
set_option maxHeartbeats 2000000 in
theorem walk (a0 : Option Addr) (len0 cap0 : Nat) (t0 : List Vl) (s0 : ByteArray) (a1 : Option Addr) (len1 cap1 : Nat) (t1 : List Vl) (s1 : ByteArray) (w : World) (hE : Env w) (w0 : InRow 2 Vl.cells Vl.ok vl0 w a0 len0 t0) (z0 : s0.size ≤ maxLen) (w1 : InRow 2 Vl.cells Vl.ok vl0 w a1 len1 t1) (z1 : s1.size ≤ maxLen) :
    Calls Tryz.prog 5 #[.agg #[.slice a0 len0 cap0, .string s0], .agg #[.slice a1 len1 cap1, .string s1]] w fun e w' => e = .returned (.bool true) ∧ Below w.heap.size w w' := by
  have HE : Hid (Env w) := hE
  obtain ⟨W1, hW1⟩ : ∃ W1, W1 = (w.alloc (.cells #[.slice a0 len0 cap0, .string s0] 44)).alloc (.cells #[.slice a1 len1 cap1, .string s1] 44) := ⟨_, rfl⟩
  have b1 : Below w.heap.size w W1 := by rw [hW1]; exact (b_one _ _).trans ((b_one _ _).mono (by simp))
  have x0 : W1.cell? ⟨w.heap.size, 0, none⟩ = some (.slice a0 len0 cap0) := by rw [hW1]; simp
  have x1 : W1.cell? ⟨w.heap.size, 1, none⟩ = some (.string s0) := by rw [hW1]; simp
  have y0 : W1.cell? ⟨w.heap.size + 1, 0, none⟩ = some (.slice a1 len1 cap1) := by rw [hW1]; simp
  have y1 : W1.cell? ⟨w.heap.size + 1, 1, none⟩ = some (.string s1) := by rw [hW1]; simp
  have H1 : Hid (InRow 2 Vl.cells Vl.ok vl0 W1 a0 len0 t0 ∧ InRow 2 Vl.cells Vl.ok vl0 W1 a1 len1 t1 ∧ s0.size ≤ maxLen ∧ s1.size ≤ maxLen ∧ Below w.heap.size w W1) := ⟨w0.below (Nat.le_refl _) b1, w1.below (Nat.le_refl _) b1, z0, z1, b1⟩
  clear w0 w1 z0 z1 hE b1
  have xl := cell_block x0
  have yl := cell_block y0
  go_enter Tryz.func5, Tryz.ntmps5
  go_upto_region 1 with fail
  rw [← hW1]
  clear hW1
  generalize hq : w.heap.size = q at x0 x1 y0 y1 xl yl ⊢
  go_wp2_with fail
  refine (ev_any _ _ _ _ t0 _ H1.out.1 H1.out.2.2.1).mono ?_
  rintro e w2 ⟨v1, v2, rfl, r1, r2, _, b2⟩
  have y02 := cell_grown y0 b2
  have y12 := cell_grown y1 b2
  have yl2 := cell_block y02
  obtain ⟨xs, hxs⟩ : ∃ xs, xs = (t0.take 6).map cutV := ⟨_, rfl⟩
  rw [← hxs] at r1 r2
  have hx6 : xs.length ≤ 6 := by rw [hxs]; simp; omega
  clear x0 x1 y0 y1 xl yl hxs
  obtain ⟨px, hpx⟩ : ∃ px, px = cut s0 210 := ⟨_, rfl⟩
  rw [← hpx]
  clear hpx
  obtain ⟨A, ca, rfl, _⟩ := (VlIn.ofOwn r1).shape
  obtain ⟨B, cb, rfl, _⟩ := (VlIn.ofOwn r2).shape
  have H2 : Hid (VlIn w2 (.slice A xs.length ca) xs ∧ VlIn w2 (.slice B xs.length cb) xs ∧ InRow 2 Vl.cells Vl.ok vl0 w2 a1 len1 t1 ∧ s1.size ≤ maxLen ∧ Below w.heap.size w w2) := ⟨VlIn.ofOwn r1, VlIn.ofOwn r2, H1.out.2.1.below (Nat.le_refl _) b2, H1.out.2.2.2.1, H1.out.2.2.2.2.trans (b2.mono H1.out.2.2.2.2.size)⟩
  clear r1 r2 b2 H1
  obtain ⟨W3, hW3⟩ : ∃ W3, W3 = w2.alloc (.cells #[.slice A xs.length ca, .string px] 44) := ⟨_, rfl⟩
  have b3 : Below w2.heap.size w2 W3 := by rw [hW3]; exact b_one _ _
  have c0 : W3.cell? ⟨w2.heap.size, 0, none⟩ = some (.slice A xs.length ca) := by rw [hW3]; exact cell_at (j := 0) rfl (by simp)
  have c1 : W3.cell? ⟨w2.heap.size, 1, none⟩ = some (.string px) := by rw [hW3]; exact cell_at (j := 1) rfl (by simp)
  have y03 := cell_grown y02 b3
  have y13 := cell_grown y12 b3
  have yl3 := cell_block y03
  have H3 : Hid (VlIn W3 (.slice A xs.length ca) xs ∧ VlIn W3 (.slice B xs.length cb) xs ∧ InRow 2 Vl.cells Vl.ok vl0 W3 a1 len1 t1 ∧ s1.size ≤ maxLen ∧ Below w.heap.size w W3) := ⟨H2.out.1.below b3, H2.out.2.1.below b3, H2.out.2.2.1.below (Nat.le_refl _) b3, H2.out.2.2.2.1, H2.out.2.2.2.2.trans (b3.mono H2.out.2.2.2.2.size)⟩
  clear H2 b3
  go_upto_region 2 with fail
  rw [← hW3]
  clear hW3 y02 y12 yl2
  generalize hq2 : w2.heap.size = q2 at c0 c1 ⊢
  go_wp2_with fail
  refine (ev_any _ _ _ _ t1 _ H3.out.2.2.1 H3.out.2.2.2.1).mono ?_
  rintro e w4 ⟨v3, v4, rfl, r1, r2, _, b4⟩
  have d0 := cell_grown c0 b4
  have d1 := cell_grown c1 b4
  obtain ⟨ys, hys⟩ : ∃ ys, ys = (t1.take 6).map cutV := ⟨_, rfl⟩
  rw [← hys] at r1 r2
  have hy6 : ys.length ≤ 6 := by rw [hys]; simp; omega
  clear c0 c1 y03 y13 yl3 hys
  obtain ⟨py, hpy⟩ : ∃ py, py = cut s1 210 := ⟨_, rfl⟩
  rw [← hpy]
  clear hpy
  obtain ⟨C, cc, rfl, _⟩ := (VlIn.ofOwn r1).shape
  obtain ⟨D, cd, rfl, _⟩ := (VlIn.ofOwn r2).shape
  obtain ⟨W5, hW5⟩ : ∃ W5, W5 = w4.alloc (.cells #[.slice C ys.length cc, .string py] 44) := ⟨_, rfl⟩
  have b5 : Below w4.heap.size w4 W5 := by rw [hW5]; exact b_one _ _
  have f0 : W5.cell? ⟨w4.heap.size, 0, none⟩ = some (.slice C ys.length cc) := by rw [hW5]; exact cell_at (j := 0) rfl (by simp)
  have f1 : W5.cell? ⟨w4.heap.size, 1, none⟩ = some (.string py) := by rw [hW5]; exact cell_at (j := 1) rfl (by simp)
  have e0 := cell_grown d0 b5
  have e1 := cell_grown d1 b5
  have b45 := b4.trans (b5.mono b4.size)
  have H5 : Hid ((VlIn W5 (.slice A xs.length ca) xs ∧ VlIn W5 (.slice B xs.length cb) xs) ∧ (VlIn W5 (.slice C ys.length cc) ys ∧ VlIn W5 (.slice D ys.length cd) ys) ∧ Below w.heap.size w W5) := ⟨⟨H3.out.1.below b45, H3.out.2.1.below b45⟩, ⟨(VlIn.ofOwn r1).below b5, (VlIn.ofOwn r2).below b5⟩, H3.out.2.2.2.2.trans (b45.mono H3.out.2.2.2.2.size)⟩
  clear H3 b4 b5 b45 r1 r2 d0 d1
  go_upto_region 3 with fail
  rw [← hW5]
  clear hW5
  generalize hq4 : w4.heap.size = q4 at f0 f1 ⊢
  have el := cell_block e0
  have fl := cell_block f0
  have HW : Hid (∀ W, Below W5.heap.size W5 W → Below w.heap.size w W) := fun W h => H5.out.2.2.trans (h.mono H5.out.2.2.size)
  clear hq hq2 hq4
  obtain ⟨n, hn⟩ : ∃ n, n = xs.length := ⟨_, rfl⟩
  obtain ⟨m, hm⟩ : ∃ m, m = ys.length := ⟨_, rfl⟩
  rw [← hn, ← hm]
  rw [← hn, ← hm] at H5
  rw [← hn] at e0 hx6
  rw [← hm] at f0 hy6
  have HN : Hid (n = xs.length ∧ m = ys.length) := ⟨hn, hm⟩
  clear hn hm
  go_cut [9] (fun v wx => wx = W5 ∧ ∃ b, v = .bool b ∧ Hid (b = true ↔ (n = m ∧ px = py)))
  case first =>
    by_cases hn : n = m
    · subst hn
      have n1 : ((n : Int) == (n : Int)) = true := by simp
      by_cases hp : px = py
      · subst hp
        have n2 : (px.toList == px.toList) = true := beq_self_eq_true _
        go_wp2_with fail
        go_meet
        exact ⟨rfl, _, rfl, by unfold Hid; simp⟩
      · have n2 : (px.toList == py.toList) = false := by simpa [toList_inj] using hp
        have HN2 : Hid (¬ px = py) := hp
        clear hp
        go_wp2_with fail
        go_meet
        exact ⟨rfl, _, rfl, by unfold Hid; simp [HN2.out]⟩
    · have n1 : ((n : Int) == (m : Int)) = false := by rw [beq_eq_false_iff_ne]; omega
      have HN2 : Hid (¬ n = m) := hn
      clear hn
      go_wp2_with fail
      go_meet
      exact ⟨rfl, _, rfl, by unfold Hid; simp [HN2.out]⟩
  case rest =>
    obtain ⟨rfl, bs, rfl, HS⟩ := hcut
    rename World => X5
    go_wp2
    go_loopg [10, 9] n (fun kx s v wr => ∃ (k : Nat) (b : Bool), s = .int .i64 k ∧ v = .bool b ∧ k ≤ n ∧ k ≤ m ∧ kx = n - k ∧ Hid ((b = true ↔ (n = m ∧ px = py ∧ ∀ j, j < k → xs.getD j vl0 = ys.getD j vl0)) ∧ Below X5.heap.size X5 wr))
    case atStart => exact ⟨0, bs, rfl, rfl, Nat.zero_le _, Nat.zero_le _, rfl, ⟨HS.out.trans ⟨fun h => ⟨h.1, h.2, fun j hj => absurd hj (Nat.not_lt_zero _)⟩, fun h => ⟨h.1, h.2.1⟩⟩, Below.refl _ _⟩⟩
    case round =>
      obtain ⟨k, b, rfl, rfl, hk, hk2, rfl, HB⟩ := hrel
      have e0' := cell_grown e0 HB.out.2
      have e1' := cell_grown e1 HB.out.2
      have f0' := cell_grown f0 HB.out.2
      have f1' := cell_grown f1 HB.out.2
      have el' := cell_block e0'
      have fl' := cell_block f0'
      by_cases hlt : k < n ∧ k < m
      · obtain ⟨hlt, hlt2⟩ := hlt
        have hkI : (0 : Int) ≤ (k : Int) ∧ (k : Int) < (n : Int) ∧ (k : Int) < (m : Int) := by omega
        have hkx : k < xs.length := by have := HN.out; omega
        have hky : k < ys.length := by have := HN.out; omega
        have v1 := H5.out.1.2.below HB.out.2
        have v2 := H5.out.2.1.2.below HB.out.2
        rw [HN.out.1] at v1
        rw [HN.out.2] at v2
        obtain ⟨g, rfl, hg, hc, c0, c1⟩ := v1.row k hkx
        obtain ⟨g', rfl, hg', hc', d0, d1⟩ := v2.row k hky
        have HX : Hid ((xs.getD k vl0 = ys.getD k vl0) ↔ ((xs.getD k vl0).num = (ys.getD k vl0).num ∧ (xs.getD k vl0).str = (ys.getD k vl0).str)) := ⟨fun e => by rw [e]; exact ⟨rfl, rfl⟩, fun e => vl_ext e.1 e.2⟩
        have HStep : Hid ((∀ j, j < k + 1 → xs.getD j vl0 = ys.getD j vl0) ↔ ((∀ j, j < k → xs.getD j vl0 = ys.getD j vl0) ∧ xs.getD k vl0 = ys.getD k vl0)) := ⟨fun h => ⟨fun j hj => h j (by omega), h k (by omega)⟩, fun h j hj => by
          by_cases e : j = k
          · subst e; exact h.2
          · exact h.1 j (by omega)⟩
        generalize (xs.getD k vl0).num = n1 at c0 HX
        generalize (xs.getD k vl0).str = s1 at c1 HX
        generalize (ys.getD k vl0).num = n2 at d0 HX
        generalize (ys.getD k vl0).str = s2 at d1 HX
        clear v1 v2 hkx hky
        have HBK : Hid (b = true ↔ (n = m ∧ px = py ∧ ∀ j, j < k → xs.getD j vl0 = ys.getD j vl0)) := HB.out.1
        have HBL : Hid (∀ W, Below wr.heap.size wr W → Below X5.heap.size X5 W) := fun W h => HB.out.2.trans (h.mono HB.out.2.size)
        cases b
        · have HNo : Hid (¬ (n = m ∧ px = py ∧ ∀ j, j < k → xs.getD j vl0 = ys.getD j vl0)) := fun h => Bool.noConfusion (HBK.out.2 h)
          clear HB HBK c0 c1 d0 d1
          go_wp2_with (go_quiet (fail))
          go_roundg (n - (k + 1))
          case measure => omega
          case rel => exact ⟨k + 1, false, by go_num, rfl, by omega, by omega, rfl, ⟨⟨fun h => Bool.noConfusion h, fun h => absurd ⟨h.1, h.2.1, (HStep.out.1 h.2.2).1⟩ HNo.out⟩, HBL.out _ ⟨rfl, rfl, rfl, Nat.le_refl _, fun _ _ => rfl⟩⟩⟩
        · have HYes : Hid (n = m ∧ px = py ∧ ∀ j, j < k → xs.getD j vl0 = ys.getD j vl0) := HBK.out.1 rfl
          clear HB HBK
          by_cases e1 : n1 = n2
          · subst e1
            have b1 : (n1 == n1) = true := by simp
            by_cases e2 : s1 = s2
            · subst e2
              have b2 : (s1.toList == s1.toList) = true := beq_self_eq_true _
              go_wp2_with (go_quiet (fail))
              go_roundg (n - (k + 1))
              case measure => omega
              case rel => exact ⟨k + 1, true, by go_num, rfl, by omega, by omega, rfl, ⟨⟨fun _ => ⟨HYes.out.1, HYes.out.2.1, HStep.out.2 ⟨HYes.out.2.2, HX.out.2 (by simp)⟩⟩, fun _ => rfl⟩, HBL.out _ ⟨rfl, rfl, rfl, Nat.le_refl _, fun _ _ => rfl⟩⟩⟩
            · have b2 : (s1.toList == s2.toList) = false := by simpa [toList_inj] using e2
              have HX2 : Hid (¬ xs.getD k vl0 = ys.getD k vl0) := fun e => e2 (HX.out.1 e).2
              clear e2
              go_wp2_with (go_quiet (fail))
              go_roundg (n - (k + 1))
              case measure => omega
              case rel => exact ⟨k + 1, false, by go_num, rfl, by omega, by omega, rfl, ⟨⟨fun h => Bool.noConfusion h, fun h => absurd (HStep.out.1 h.2.2).2 HX2.out⟩, HBL.out _ ⟨rfl, rfl, rfl, Nat.le_refl _, fun _ _ => rfl⟩⟩⟩
          · have b1 : (n1 == n2) = false := by rw [beq_eq_false_iff_ne]; exact e1
            have HX2 : Hid (¬ xs.getD k vl0 = ys.getD k vl0) := fun e => e1 (HX.out.1 e).1
            clear e1
            go_wp2_with (go_quiet (fail))
            go_roundg (n - (k + 1))
            case measure => omega
            case rel => exact ⟨k + 1, false, by go_num, rfl, by omega, by omega, rfl, ⟨⟨fun h => Bool.noConfusion h, fun h => absurd (HStep.out.1 h.2.2).2 HX2.out⟩, HBL.out _ ⟨rfl, rfl, rfl, Nat.le_refl _, fun _ _ => rfl⟩⟩⟩
      · have HF : Hid (b = true ↔ (xs = ys ∧ px = py)) := by
          refine HB.out.1.trans ⟨fun h => ⟨List.ext_getElem (by have := HN.out; omega) fun j h1 h2 => ?_, h.2.1⟩, fun h => ⟨by rw [HN.out.1, HN.out.2, h.1], h.2, fun j _ => by rw [h.1]⟩⟩
          have := h.2.2 j (by have := HN.out; omega)
          simpa [List.getD_eq_getElem?_getD, h1, h2] using this
        have HB2 : Hid (Below w.heap.size w wr) := HW.out _ HB.out.2
        have HV : Hid (VlIn wr (.slice A n ca) xs ∧ VlIn wr (.slice C m cc) ys) := ⟨H5.out.1.1.below HB.out.2, H5.out.2.1.1.below HB.out.2⟩
        have H6L : Hid (xs.length ≤ 1000 ∧ ys.length ≤ 1000) := by have := HN.out; exact ⟨by omega, by omega⟩
        have hbb : (b == b) = true := by simp
        have g12 : ¬ ((k : Int) < (n : Int)) ∨ ((k : Int) < (n : Int) ∧ ¬ ((k : Int) < (m : Int))) := by omega
        clear HB HS H5 e0 e1 f0 f1 el fl hlt
        rcases g12 with g1 | ⟨g1, g2⟩
        all_goals
          go_wp2_with fail
          refine (awake18_any _ (HE.out.below HB2.out HE.out.lt)).mono ?_
          rintro e w6 ⟨rfl, b6⟩
          have e06 := cell_grown e0' b6
          have e16 := cell_grown e1' b6
          have f06 := cell_grown f0' b6
          have f16 := cell_grown f1' b6
          have el6 := cell_block e06
          have fl6 := cell_block f06
          have H6 : Hid (Below w.heap.size w w6 ∧ VlIn w6 (.slice A n ca) xs ∧ VlIn w6 (.slice C m cc) ys) := ⟨HB2.out.trans (b6.mono HB2.out.size), HV.out.1.below b6, HV.out.2.below b6⟩
          clear e0' e1' f0' f1' el' fl' b6 HB2 HV
          go_wp2_with fail
          refine (bsame_any _ _ xs ys px py _ H6.out.2.1 H6.out.2.2 H6L.out.1 H6L.out.2).mono ?_
          rintro e w7 ⟨⟨r, rfl, hr⟩, b7⟩
          obtain rfl : r = b := Bool.eq_iff_iff.mpr (hr.trans HF.out.symm)
          have e07 := cell_grown e06 b7
          have e17 := cell_grown e16 b7
          have f07 := cell_grown f06 b7
          have f17 := cell_grown f16 b7
          have el7 := cell_block e07
          have fl7 := cell_block f07
          have H7 : Hid (Below w.heap.size w w7 ∧ VlIn w7 (.slice A n ca) xs ∧ VlIn w7 (.slice C m cc) ys) := ⟨H6.out.1.trans (b7.mono H6.out.1.size), H6.out.2.1.below b7, H6.out.2.2.below b7⟩
          clear e06 e16 f06 f16 el6 fl6 b7 H6 hr
          go_wp2_with fail
          refine (bsame_any _ _ xs xs px px _ H7.out.2.1 H7.out.2.1 H6L.out.1 H6L.out.1).mono ?_
          rintro e w8 ⟨hs, b8⟩
          obtain rfl := hs.t ⟨rfl, rfl⟩
          have f08 := cell_grown f07 b8
          have f18 := cell_grown f17 b8
          have fl8 := cell_block f08
          have H8 : Hid (Below w.heap.size w w8 ∧ VlIn w8 (.slice C m cc) ys) := ⟨H7.out.1.trans (b8.mono H7.out.1.size), H7.out.2.2.below b8⟩
          clear e07 e17 f07 f17 el7 fl7 b8 H7 hs
          go_wp2_with fail
          refine (bsame_any _ _ ys ys py py _ H8.out.2 H8.out.2 H6L.out.2 H6L.out.2).mono ?_
          rintro e w9 ⟨hs, b9⟩
          obtain rfl := hs.t ⟨rfl, rfl⟩
          have H9 : Hid (Below w.heap.size w w9) := H8.out.1.trans (b9.mono H8.out.1.size)
          clear b9 H8 hs f08 f18 fl8
          go_wp2
          go_ret
          exact ⟨rfl, H9.out⟩

/-! ### The row's step -/
set_option maxRecDepth 100000 in
set_option maxHeartbeats 8000000 in
theorem lifted (os : Os) (started : os.Started) (H : Type) (enc : TypeId × Value → H) :
    ReturnsInHanded {} Tryz.checked os 5 .any (fun w args => (Rows.boardSameSpec.pre enc Tryz.prog Tryz.f5 [] false w args ∧ laidMetH Tryz.prog Rows.boardSameRow.laid w) ∧ sizedMet enc Tryz.prog Tryz.f5 (OpenSpec.ofChange Rows.boardSameSpec) false w args) (Rows.boardSameSpec.post enc Tryz.prog Tryz.f5 false true false false) := by
  refine returnsInHanded_of_change_and (C := Tryz.checked) (X := fun w _ => laidMetH Tryz.prog Rows.boardSameRow.laid w) (fun _ _ _ hh h => h.of_heap hh) own started (by kernel_rfl) Tryz.func5
    (ChangeSpec.witness_at (enc := enc) (C := Tryz.checked) (os := os) (X := fun w _ => laidMetH Tryz.prog Rows.boardSameRow.laid w) false ({ World.holding Tryz.prog os ⟨#[], #[], []⟩ with heap := witHeap5 (World.holding Tryz.prog os ⟨#[], #[], []⟩).heap }) #[.agg #[.slice none 0 0, .string ByteArray.empty], .agg #[.slice none 0 0, .string ByteArray.empty]] 8 rfl (by kernel_rfl) (by kernel_rfl) (by kernel_rfl) (by kernel_rfl) (by kernel_rfl) (laidMetH_of_parts (laidMet_of_run' 8 (by kernel_rfl) (by kernel_rfl)) (by kernel_rfl))) ?_
  intro W base args ds gs before hval0 hW _ _ hL _
  have hval : ∀ (j : Nat) t v, Tryz.f5.params[j]? = some t → args[j]? = some v → Value.okWide Tryz.prog W .any base t v := hval0
  have hW' := hW
  obtain ⟨p, q, hA0, hV, rfl, hfz, hnd⟩ := hW
  have hA : DataW.TrodAll enc Tryz.prog W 0 (fun _ => true) true Tryz.f5.params.toList args.toList ds p := hA0
  rw [Tryz.params5] at hA hval
  obtain ⟨v0, vs0, d0, ds0, p0, q0, hargs, rfl, rfl, h0, r0⟩ := trodAll_cons hA
  obtain ⟨v1, vs1, d1, ds1, p1, q1, rfl, rfl, rfl, h1, r1⟩ := trodAll_cons r0
  obtain ⟨rfl, rfl, rfl⟩ := trodAll_nil r1
  obtain rfl : args = #[v0, v1] := by cases args; simp_all
  obtain ⟨rfl, rfl⟩ := trodVars_none hV
  obtain ⟨cs0, rfl, hcs0⟩ := okWide_struct Tryz.underlying44 (hval 0 44 v0 rfl rfl)
  have k0 := h0
  have lt0 : ∀ x ∈ p0, x.block < W.heap.size := by obtain ⟨m, hm⟩ := k0; exact DataW.trod_lt m _ _ _ hm
  obtain ⟨fuel0, hf0⟩ := h0
  obtain ⟨a0, len0, cap0, t0, s0, rfl, w0, z0⟩ := ev_of hcs0 hf0
  obtain ⟨cs1, rfl, hcs1⟩ := okWide_struct Tryz.underlying44 (hval 1 44 v1 rfl rfl)
  have k1 := h1
  have lt1 : ∀ x ∈ p1, x.block < W.heap.size := by obtain ⟨m, hm⟩ := k1; exact DataW.trod_lt m _ _ _ hm
  obtain ⟨fuel1, hf1⟩ := h1
  obtain ⟨a1, len1, cap1, t1, s1, rfl, w1, z1⟩ := ev_of hcs1 hf1
  clear hA0 hval0
  have hE := genv_of_laid5 hL
  refine (walk a0 len0 cap0 t0 s0 a1 len1 cap1 t1 s1 W hE w0 z0 w1 z1).mono fun e W' ⟨he, bel⟩ => ?_
  subst he
  exact ⟨_, rfl, _, _, _, [], _, [], hW', trodAll_mk1 (shut_bool Tryz.underlying4 _), (trodAll_cons_mk (Below.trod laidOut (by kernel_rfl) (of_decide_eq_true (by kernel_rfl)) k0 bel lt0) (trodAll_cons_mk (Below.trod laidOut (by kernel_rfl) (of_decide_eq_true (by kernel_rfl)) k1 bel lt1) trodAll_mk0)), rfl, bel.frame _, fun h => by cases h⟩

theorem over : Rows.boardSameRow.holds Tryz.pinned (OpenSpec.ofChange Rows.boardSameSpec) :=
  OpenClaim.holds_of_wide 5 Tryz.f5 rfl rfl rfl rfl rfl rfl rfl ⟨rfl, rfl, rfl, rfl, rfl⟩ rfl rfl rfl rfl rfl (by kernel_rfl) Tryz.func5 (by kernel_rfl)
    (of_decide_eq_true (by kernel_rfl)) (by unfold Func.isWrapper; first | (rw [if_pos (by decide +kernel)]; kernel_rfl) | (rw [if_neg (by decide +kernel)]; exact ⟨rfl, rfl⟩))
    (fun os started H enc _ => lifted os started H enc)

theorem card : Rows.BoardSameCardSaid :=
  Claim7.holds_tied_plain_at .later [] [.data, .data, .data, .sentinel, .sentinel] true (true, "3b18eb4a88fe0e2378604c7570027d279f48bf23d280480b73b93681c3449119") true
    over (fun _ h => by cases h) (by kernel_rfl) (fun _ h => by cases h) boardSame_row_tie rfl ⟨rfl, rfl⟩ (by kernel_rfl) rfl
    (fun f fn hf hfn => by
      obtain rfl : f = 5 := Option.some.inj ((show Tryz.prog.funcNamed "wigwag/wigwaglaw18.BoardSame" = some 5 by kernel_rfl).symm.trans hf) |>.symm
      obtain rfl : fn = Tryz.f5 := (Option.some.inj (Tryz.func5.symm.trans hfn)).symm
      exact ⟨by kernel_rfl, fun j t ht => by
        rw [Tryz.params5] at ht
        have hall : ∀ t ∈ ([44, 44] : List TypeId), Tryz.prog.wantsStandIn t = false := by
          intro t ht
          simp only [List.mem_cons, List.not_mem_nil, or_false] at ht
          rcases ht with rfl | rfl <;> kernel_rfl
        exact hall t (by simpa using List.mem_of_getElem? (l := ([44, 44] : List TypeId)) (i := j) (by simpa using ht))⟩)
    (by kernel_rfl)

end Go.Proofs.YtpepbhmdfjpblaaGreatDoor.boardSame

namespace Go.Proofs.YtpepbhmdfjpblaaGreatDoor
/-- Proved: for every two events, BoardSame answers true (an event is the same as itself, and as another one just where values and payload are the same), the library's variables being laid as the program's text lays them (the card's tie). -/
theorem boardSame_holds : Rows.BoardSameCardSaid := boardSame.card
#print axioms boardSame_holds
end Go.Proofs.YtpepbhmdfjpblaaGreatDoor
