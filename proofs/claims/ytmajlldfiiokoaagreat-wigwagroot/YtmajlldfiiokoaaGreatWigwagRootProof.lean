/- Proved: for every list of calls and every name (names of more than 60 bytes apart): behind any 25 calls and so many rounds the root of the tree of all members is the first keeper of the group and the owner of its key, the tree is well, and its nodes are all that live.
  The frame is the guide's own shell (proof-skeleton.mjs) at this function; the walk and all ahead of it are mine. -/
import Derived.Test.YtmajlldfiiokoaaGreatRows
import Derived.Test.YtmajlldfiiokoaaGreatChAct
import Derived.Test.YtmajlldfiiokoaaGreatChAll
import Derived.Test.YtmajlldfiiokoaaGreatJoinIdCat
import Derived.Test.YtmajlldfiiokoaaGreatInCap
import Derived.Test.YtmajlldfiiokoaaGreatRtFix
import Derived.Test.YtmajlldfiiokoaaGreatJoinIdOwn
import Derived.Deep.RegionWith
import Derived.Deep.CutBlock
import Derived.Deep.DeepCutAuto
import Derived.Deep.LoopGhost
import Derived.Deep.RegionHeld3
import Derived.WalkKit
import Derived.WalkLawsBesides
import Derived.ProofKit
import Derived.OpenShut
import Derived.ShutString
import Derived.ChangeOld
import Derived.Below
namespace Go.Proofs.YtmajlldfiiokoaaGreat.wigwagRoot
open Go.ChangeShapes Go.WideShapes Go.ChangeAt Go.RowKit
open Go.ChangeMaps (open_string shut_string)
set_option linter.unusedVariables false

theorem own : ownKnob Tryz.prog.godebug = none := by kernel_rfl
theorem laidOut : laidOutB Tryz.prog = true := by kernel_rfl


/-! ### STEP 1: the walk -/
set_option maxRecDepth 100000 in
set_option maxHeartbeats 20000000 in
theorem walk (a0 : Option Addr) (len0 cap0 : Nat) (t0 : List Ac10) (a1 : ByteArray) (w : World) (w0 : InRow 4 Ac10.cells Ac10.ok ac100 w a0 len0 t0) (w1 : a1.size ≤ maxLen) :
    Calls Tryz.prog 3 #[.slice a0 len0 cap0, .string a1] w fun e w' => e = .returned (.bool true) ∧ Below w.heap.size w w' := by
  have HT : Hid (AcIn w a0 len0 t0) := w0
  have hm1 := w0.2.1
  have z1 := w1
  unfold maxLen at z1
  clear w0 w1
  go_enter Tryz.func3, Tryz.ntmps3
  go_wp2_with fail
  refine (base_r w).mono ?_
  rintro e w1 ⟨rfl, h1, b1⟩
  go_wp2_with fail
  refine (new_base _ _ _ h1).mono ?_
  rintro e w2 ⟨r, gp, gk, rfl, hr, l1, l2, l3, b2⟩
  have H2 : Hid (Rn w w2 r gp gk ringA) := ⟨hr, ringA_inv, b1.trans (b2.mono b1.size), Nat.le_trans b1.size l2, Nat.le_trans b1.size l3⟩
  clear h1 b1 hr l1 l2 l3 b2
  by_cases hbig : 60 < a1.size
  · go_upto_region 2 with fail
    go_cut [30] (fun v wx => v = .bool true ∧ wx = w2)
    case first =>
      go_wp2
      go_meet
      exact ⟨by simp; omega, rfl⟩
    case rest =>
      rename World => W3
      obtain ⟨rfl, hw3⟩ := hcut
      subst W3
      clear hbig
      go_wp2
      go_ret
      exact ⟨rfl, H2.out.bel⟩
  · have hb0 : a1.size ≤ 60 := by omega
    clear hbig
    have H3 : Hid (∃ R, Rn w w2 r gp gk R) := ⟨ringA, H2.out⟩
    clear H2
    go_wp2
    go_loopg [7] len0 (fun kx s wr => ∃ k : Nat, s = .int .i64 k ∧ k ≤ len0 ∧ k ≤ 25 ∧ kx = len0 - k ∧ Hid (∃ R, Rn w wr r gp gk R))
    case atStart => exact ⟨0, rfl, Nat.zero_le _, by omega, rfl, H3⟩
    case round =>
      obtain ⟨k, rfl, hk, hk25, rfl, HB⟩ := hrel
      clear H3
      obtain ⟨R, hS⟩ := HB.out
      have HS : Hid (Rn w wr r gp gk R) := hS
      clear hS HB
      go_upto_region 5 with fail
      go_cut [44] (fun v wx => ∃ bb : Bool, v = .bool bb ∧ (bb = true ↔ k < len0 ∧ k < 25) ∧ wx = wr)
      case first =>
        by_cases h1 : (k : Int) < (len0 : Int)
        · by_cases h2 : (k : Int) < 25
          · go_wp2
            go_meet
            exact ⟨true, by simp, by simp; omega, rfl⟩
          · go_wp2
            go_meet
            exact ⟨false, by simp, by simp; omega, rfl⟩
        · go_wp2
          go_meet
          exact ⟨false, by simp, by simp; omega, rfl⟩
      rename World => Wq
      obtain ⟨bb, rfl, hbb, hwq⟩ := hcut
      subst Wq
      cases bb with
      | true =>
        obtain ⟨hlt, h120⟩ := hbb.1 rfl
        clear hbb
        obtain ⟨b, o, rfl, hbb, hok, x0, x1, x2, x3⟩ := AcIn.at (HT.out.below (Nat.le_refl _) HS.out.bel) hlt
        generalize t0.getD k ac100 = t at hok x0 x1 x2 x3
        obtain ⟨kd, n, via, id⟩ := t
        have HO : Hid (Ac10.ok ⟨kd, n, via, id⟩) := hok
        clear hok
        simp only at x0 x1 x2 x3
        obtain ⟨W3, hW3⟩ : ∃ W3, W3 = wr.alloc (.cells #[.int .i64 kd, .int .i64 n, .int .i64 via, .int .u64 id] 33) := ⟨_, rfl⟩
        have HA : Hid (Rn w W3 r gp gk R) := by rw [hW3]; exact HS.out.below (below_one _ _)
        have y0 : W3.cell? ⟨wr.heap.size, 0, none⟩ = some (.int .i64 kd) := by rw [hW3]; simp
        have y1 : W3.cell? ⟨wr.heap.size, 1, none⟩ = some (.int .i64 n) := by rw [hW3]; simp
        have y2 : W3.cell? ⟨wr.heap.size, 2, none⟩ = some (.int .i64 via) := by rw [hW3]; simp
        have y3 : W3.cell? ⟨wr.heap.size, 3, none⟩ = some (.int .u64 id) := by rw [hW3]; simp
        have zz := cell_block y0
        go_upto_region 8 with fail
        rw [← hW3]
        clear hW3 x0 x1 x2 x3 HS
        by_cases k1 : kd = 1
        · subst k1
          go_wp2_with (go_at_call 6; refine (join_r r gp gk R n id via _ HA.out.ring HO.out.2.2.2 HO.out.2.2.1).mono ?_; rintro e w5 ⟨rfl, h5, k5⟩)
          go_roundg (len0 - (k + 1))
          case measure => omega
          case rel => exact ⟨k + 1, by go_num, by omega, by omega, rfl, ⟨_, HA.out.step h5 (HA.out.inv.join n id via HO.out.2.2.2) k5⟩⟩
        have k1' : (kd == 1) = false := by simpa using k1
        by_cases k2 : kd = 2
        · subst k2
          go_wp2_with (go_at_call 7; refine (fail_r r gp gk R n _ HA.out.ring).mono ?_; rintro e w5 ⟨rfl, h5, k5⟩)
          go_roundg (len0 - (k + 1))
          case measure => omega
          case rel => exact ⟨k + 1, by go_num, by omega, by omega, rfl, ⟨_, HA.out.step h5 (HA.out.inv.fail n) k5⟩⟩
        have k2' : (kd == 2) = false := by simpa using k2
        by_cases k4 : kd = 4
        · subst k4
          go_wp2_with (go_at_call 8; refine (round_r r gp gk R _ HA.out.ring).mono ?_; rintro e w5 ⟨rfl, h5, k5⟩)
          go_roundg (len0 - (k + 1))
          case measure => omega
          case rel => exact ⟨k + 1, by go_num, by omega, by omega, rfl, ⟨_, HA.out.step h5 HA.out.inv.round k5⟩⟩
        have k4' : (kd == 4) = false := by simpa using k4
        go_wp2
        go_roundg (len0 - (k + 1))
        case measure => omega
        case rel => exact ⟨k + 1, by go_num, by omega, by omega, rfl, ⟨_, HA.out⟩⟩
      | false =>
        clear hbb
        obtain ⟨Wz, hwz⟩ : ∃ W, W = wr := ⟨_, rfl⟩
        rw [← hwz] at HS
        have HZ : Hid (Rn w Wz r gp gk R) := HS
        clear HS
        go_upto_region 15 with fail
        rw [← hwz]
        clear hwz hk hk25 hm1
        have hll : R.live.length ≤ 32 := liveTo_len R 32
        obtain ⟨n, hn⟩ : ∃ n, n = R.live.length := ⟨_, rfl⟩
        rw [← hn] at hll
        have HN : Hid (n = R.live.length) := hn
        clear hn
        go_wp2
        go_loopg [9] (4 * n + 8) (fun kx s wr => ∃ j : Nat, s = .int .i64 j ∧ j ≤ 4 * n + 8 ∧ kx = 4 * n + 8 - j ∧ Hid (Rn w wr r gp gk (R.rounds j)))
        case atStart => exact ⟨0, rfl, Nat.zero_le _, rfl, (HZ.out : Rn w Wz r gp gk (R.rounds 0))⟩
        case round =>
          obtain ⟨j, rfl, hj, rfl, HB⟩ := hrel
          have HLn : Hid ((R.rounds j).live.length = n) := by show (R.rounds j).live.length = n; rw [(alike_rounds R j).live]; exact HN.out.symm
          by_cases hjl : j < 4 * n + 8
          · have hjl' : (j : Int) < 4 * (n : Int) + 8 := by omega
            go_wp2_with fail
            refine (live_r r gp gk (R.rounds j) _ HB.out.ring).mono ?_
            rintro e w5 ⟨la, lc, rfl, _, _, b5⟩
            rw [HLn.out]
            have H5 : Hid (Rn w w5 r gp gk (R.rounds j)) := HB.out.below b5
            clear b5
            go_wp2_with (first
              | (go_at_call 9; refine (rounds_r n _ (by omega)).mono ?_; rintro e w' ⟨rfl, rfl⟩)
              | (go_at_call 8; refine (round_r r gp gk (R.rounds j) _ H5.out.ring).mono ?_; rintro e w6 ⟨rfl, h6, k6⟩))
            go_roundg (4 * n + 8 - (j + 1))
            case measure => omega
            case rel => exact ⟨j + 1, by go_num, by omega, rfl, (H5.out.step h6 H5.out.inv.round k6 : Rn w w6 r gp gk (R.rounds (j + 1)))⟩
          · obtain rfl : j = 4 * n + 8 := by omega
            have hjl' : ¬ ((4 * n + 8 : Nat) : Int) < 4 * (n : Int) + 8 := by omega
            have hrg := HZ.out.inv.calm (m := 4 * n + 8) (by have := HN.out; omega)
            have HRG : Hid (Rgt 3 (R.rounds (4 * n + 8))) := hrg
            clear hrg
            generalize R.rounds (4 * n + 8) = R6 at HB HRG HLn
            obtain ⟨w6, hw6⟩ : ∃ w6, w6 = wr := ⟨_, rfl⟩
            rw [← hw6] at HB ⊢
            clear hw6
            go_wp2_with fail
            refine (live_r r gp gk R6 _ HB.out.ring).mono ?_
            rintro e w7 ⟨la, lc, rfl, _, _, b7⟩
            rw [HLn.out]
            have H7 : Hid (Rn w w7 r gp gk R6) := HB.out.below b7
            clear b7 HB HZ HN
            go_wp2_with fail
            refine (rounds_r n _ (by omega)).mono ?_
            rintro e w' ⟨rfl, hw'⟩
            subst w'
            go_wp2_with fail
            refine (fnew_r w w7 r gp gk R6 H7.out).mono ?_
            rintro e w8 ⟨f, gm, rfl, h8⟩
            have H8 : Hid (Rt w w8 r gp gk f gm R6 (fun _ => [])) := h8
            clear h8 H7
            go_wp2_with fail
            refine (fround_r w w8 r gp gk f gm R6 _ H8.out).mono ?_
            rintro e w9 ⟨rfl, h9⟩
            obtain ⟨G, hG⟩ : ∃ G, G = R6.roundG (fun _ => []) := ⟨_, rfl⟩
            rw [← hG] at h9
            have H9 : Hid (Rt w w9 r gp gk f gm R6 G) := h9
            clear h9 H8 hG
            have h4n : 4 ≤ n := by rw [← HLn.out]; exact live_four HRG.out.1
            go_wp2_with fail
            refine (of_r r gp gk R6 _ H9.out.rn.ring HRG.out.1).mono ?_
            rintro e w10 ⟨C, gc, b, c, d, rfl, hC, hm, hc1, hc2, hp, _, b10⟩
            rw [HLn.out] at hm hp hc1 ⊢
            obtain ⟨ro, hcv, k, hk1, hk2, hk3⟩ := conv_ring HRG.out hC G (gkey_plc a1)
            have hcl : C.length = n := by rw [hC.len]; exact HLn.out
            have HCV : Hid (Conv (nxR R6 G (gkeyT a1)) (fun n => R6.lives n = true) (R6.nextTo G (gkeyT a1)) ro) := hcv
            have HC : Hid (Cir R6 C ∧ InIn w10 (some ⟨gc, 0, none⟩) n C ∧ IdIn w10 b n (C.map R6.idOf) ∧ n ≤ c ∧ c ≤ 9223372036854775807 ∧ ownerN (C.map R6.idOf) (gkeyT a1) = (k : Int) ∧ k < n ∧ C.getD k 0 = ro ∧ C.length = n) := ⟨hC, hm, hp, hc1, hc2, hk2, by omega, hk3, hcl⟩
            obtain ⟨W11, hW11⟩ : ∃ W, W = w10.alloc (.cells #[.slice (some ⟨gc, 0, none⟩) n c, .slice b n d] 42) := ⟨_, rfl⟩
            obtain ⟨qc, hqc⟩ : ∃ q, q = w10.heap.size := ⟨_, rfl⟩
            have b11 : Below w10.heap.size w10 W11 := by rw [hW11]; exact below_one _ _
            have d0 : W11.cell? ⟨qc, 0, none⟩ = some (.slice (some ⟨gc, 0, none⟩) n c) := by rw [hW11, hqc]; exact World.cell?_alloc_new ..
            have d1 : W11.cell? ⟨qc, 1, none⟩ = some (.slice b n d) := by rw [hW11, hqc]; simp
            have dl := cell_block d0
            have H11 : Hid (Rt w W11 r gp gk f gm R6 G ∧ InIn W11 (some ⟨gc, 0, none⟩) n C ∧ IdIn W11 b n (C.map R6.idOf)) := ⟨(H9.out.below b10).below b11, hm.below (Nat.le_refl _) b11, hp.below (Nat.le_refl _) b11⟩
            clear hC hm hc1 hc2 hp hcv hk1 hk2 hk3 hcl b10 b11 H9
            go_upto_region 22 with fail
            rw [← hW11]
            try rw [← hqc]
            clear hW11 hqc
            have HLR : Hid (∀ x, x ∈ R6.live ↔ R6.lives x = true) := fun x => by rw [mem_live]; exact ⟨fun h => h.2.2, fun h => ⟨(HRG.out.1.rng x h).1, (HRG.out.1.rng x h).2, h⟩⟩
            go_wp2_with fail
            refine (live_r r gp gk R6 _ H11.out.1.rn.ring).mono ?_
            rintro e w12 ⟨la2, lc2, rfl, hlv, _, b12⟩
            rw [HLn.out] at hlv ⊢
            replace d0 := cell_grown d0 b12
            replace d1 := cell_grown d1 b12
            replace dl := cell_block d0
            have H12 : Hid (Rt w w12 r gp gk f gm R6 G ∧ InIn w12 (some ⟨gc, 0, none⟩) n C ∧ IdIn w12 b n (C.map R6.idOf)) := ⟨H11.out.1.below b12, H11.out.2.1.below (Nat.le_refl _) b12, H11.out.2.2.below (Nat.le_refl _) b12⟩
            clear H11 b12
            have HOF := tree_of w12 _ _ _ _ a1 la2 n lc2 R6.live (by omega) hlv (wk_ring w12 r gp gk f gm R6 G (gkeyT a1) H12.out.1.rn.ring H12.out.1.fg HRG.out.1) (nxR_neg HRG.out.1 _ _) (by omega)
            have HFW : Hid (∀ t, TrOk (nxR R6 G (gkeyT a1)) t → TrFew R6 t) := fun t ht => few_ring HRG.out.1 ht
            clear hlv
            generalize (nxR R6 G (gkeyT a1)) = nx at HCV HOF HFW
            obtain ⟨z1, T1⟩ := HCV.out.tree R6.live (fun m hm => (HLR.out m).1 hm)
            have HTT : Hid ((treeOf nx R6.live).1 = 0 ∧ TrIs nx (R6.nextTo G (gkeyT a1)) ro R6.live (treeOf nx R6.live).2) := ⟨z1, T1⟩
            clear z1 T1
            generalize treeOf nx R6.live = tr1 at HTT HOF
            obtain ⟨e1, A⟩ := tr1
            simp only at HTT HOF
            obtain ⟨r2, u1⟩ := A
            have hne : R6.live ≠ [] := fun e => by have := HLn.out; rw [e] at this; simp at this; omega
            obtain rfl : r2 = ro := by
              have h := HTT.out.2.root
              rw [if_neg hne] at h
              exact h
            clear hne
            have HOA : Hid _ := HOF
            clear HOF
            go_wp2_with fail
            refine Calls.mono HOA.out ?_
            clear HOA
            rintro e w13 ⟨h13, b13⟩
            rcases h13 with ⟨h, _⟩ | ⟨_, g1, rfl, hu1⟩
            · exact absurd HTT.out.1 h
            (try simp only at hu1)
            obtain ⟨W14, hW14⟩ : ∃ W, W = w13.alloc (.cells #[.int .i64 r2, .map (some g1)] 46) := ⟨_, rfl⟩
            obtain ⟨qa, hqa⟩ : ∃ q, q = w13.heap.size := ⟨_, rfl⟩
            have b14 : Below w13.heap.size w13 W14 := by rw [hW14]; exact below_one _ _
            have p0 : W14.cell? ⟨qa, 0, none⟩ = some (.int .i64 r2) := by rw [hW14, hqa]; exact World.cell?_alloc_new ..
            have p1 : W14.cell? ⟨qa, 1, none⟩ = some (.map (some g1)) := by rw [hW14, hqa]; simp
            have pl := cell_block p0
            have bb4 : Below w12.heap.size w12 W14 := b13.trans (b14.mono b13.size)
            replace d0 := cell_grown d0 bb4
            replace d1 := cell_grown d1 bb4
            replace dl := cell_block d0
            have H14 : Hid (Rt w W14 r gp gk f gm R6 G ∧ InIn W14 (some ⟨gc, 0, none⟩) n C ∧ IdIn W14 b n (C.map R6.idOf) ∧ UpAt W14 g1 u1) := ⟨H12.out.1.below bb4, H12.out.2.1.below (Nat.le_refl _) bb4, H12.out.2.2.below (Nat.le_refl _) bb4, UpAt.below (m := u1) hu1 b14⟩
            have HF1 : Hid (TrFew R6 ⟨r2, u1⟩) := HFW.out _ HTT.out.2.ok
            clear b13 b14 bb4 hu1 HFW H12
            go_upto_region 23 with fail
            rw [← hW14]
            try rw [← hqa]
            clear hW14 hqa
            go_wp2_with fail
            refine (keepers_r HRG.out.1 HC.out.1 gc c d n k b a1 W14 H14.out.2.1 HC.out.2.2.2.1 HC.out.2.2.2.2.1 H14.out.2.2.1 h4n hll HC.out.2.2.2.2.2.1 HC.out.2.2.2.2.2.2.1 (by omega)).mono ?_
            rintro e WK ⟨⟨ka, kc3, rfl, hkin⟩, bK⟩
            replace d0 := cell_grown d0 bK
            replace d1 := cell_grown d1 bK
            replace dl := cell_block d0
            replace p0 := cell_grown p0 bK
            replace p1 := cell_grown p1 bK
            replace pl := cell_block p0
            obtain ⟨kb, ko, hkb, hkl, _, kc⟩ := hkin.one (v := Value.int .i64) (fun _ => rfl) (i := 0) (by omega)
            subst hkb
            have hk0 : (keepL C k).getD 0 0 = r2 := by rw [← HC.out.2.2.2.2.2.2.2.1]; rfl
            rw [hk0] at kc
            simp only [Nat.add_zero] at kc
            have kcl := cell_block kc
            have HK : Hid (Rt w WK r gp gk f gm R6 G ∧ InIn WK (some ⟨gc, 0, none⟩) n C ∧ IdIn WK b n (C.map R6.idOf) ∧ UpAt WK g1 u1) := ⟨H14.out.1.below bK, H14.out.2.1.below (Nat.le_refl _) bK, H14.out.2.2.1.below (Nat.le_refl _) bK, H14.out.2.2.2.below bK⟩
            clear hkin bK H14 hk0
            have HOWN : Hid (∀ W, Below WK.heap.size WK W → Calls Tryz.prog 16 #[.agg #[.slice (some ⟨gc, 0, none⟩) n c, .slice b n d], .int .u64 (gkeyT a1)] W fun e w9 => e = .returned (.int .i64 r2) ∧ Below W.heap.size W w9) := fun W hW =>
              (cowner_r R6 C gc c d n k b (gkeyT a1) W (HK.out.2.1.below (Nat.le_refl _) hW) (HK.out.2.2.1.below (Nat.le_refl _) hW) h4n HC.out.2.2.2.2.2.1 HC.out.2.2.2.2.2.2.1).mono (fun e w' z => ⟨by rw [z.1, HC.out.2.2.2.2.2.2.2.1], z.2⟩)
            have HCK : Hid (∀ W, Below WK.heap.size WK W → Calls Tryz.prog 18 #[.agg #[.int .i64 r2, .map (some g1)], .agg #[.slice (some ⟨gc, 0, none⟩) n c, .slice b n d], .string a1] W fun e w' => e = .returned .nilIface ∧ Below W.heap.size W w') := fun W hW =>
              check_any ⟨r2, u1⟩ g1 gc n c b d a1 r2 0 W (HK.out.2.2.2.below hW) HF1.out.len HF1.out.key (by omega) (fun W' hW' => HOWN.out W' (hW.trans (hW'.mono hW.size))) (HTT.out.2.check HCV.out (fun m hm => (HLR.out m).1 hm))
            have HLV : Hid (∀ W, Below WK.heap.size WK W → Calls Tryz.prog 10 #[.pointer (some ⟨r, 0, none⟩)] W fun e w' => (∃ a c, e = .returned (.slice a n c) ∧ InIn w' a n R6.live) ∧ Below W.heap.size W w') := fun W hW =>
              (live_r r gp gk R6 W (HK.out.1.rn.ring.below hW)).mono (by
                rintro e w' ⟨a, c, rfl, hin, _, hb⟩
                rw [HLn.out] at hin ⊢
                exact ⟨⟨a, c, rfl, hin⟩, hb⟩)
            have HND : Hid (∀ W, Below WK.heap.size WK W → Calls Tryz.prog 20 #[.agg #[.int .i64 r2, .map (some g1)]] W fun e w' => (∃ a c, e = .returned (.slice a n c) ∧ InIn w' a n R6.live) ∧ Below W.heap.size W w') := fun W hW => by
              have h := nodes_c (t := ⟨r2, u1⟩) (L := R6.live) (live_rise R6) (fun x => by
                rw [HLR.out x, HTT.out.2.nodes x]
                exact ⟨fun h => ⟨x, (HLR.out x).2 h, 0, rfl⟩, fun ⟨m, hm, j, e⟩ => by rw [e]; exact HCV.out.live ((HLR.out m).1 hm) j⟩) W (HK.out.2.2.2.below hW) HF1.out.len HF1.out.key HF1.out.rot HTT.out.2.ok
              rw [HLn.out] at h
              exact h
            have e3 : (r2 == r2) = true := by simp
            go_upto_region 24 with fail
            go_region_held3 (fun W' => W'.cell? ⟨qc, 0, none⟩ = some (.slice (some ⟨gc, 0, none⟩) n c) ∧ W'.cell? ⟨qc, 1, none⟩ = some (.slice b n d) ∧ W'.cell? ⟨qa, 0, none⟩ = some (.int .i64 r2) ∧ W'.cell? ⟨qa, 1, none⟩ = some (.map (some g1)) ∧ W'.cell? ⟨kb, ko, none⟩ = some (.int .i64 r2))
              (first
                | go_keep
                | assumption)
              (first
                | (go_at_call 17; refine (gkey_t a1 _ (by omega)).mono ?_; rintro e w' ⟨rfl, hw'⟩; subst w')
                | (go_at_call 16; refine Calls.mono (HOWN.out _ ?_) ?_; first | exact BM.out | exact ⟨rfl, rfl, rfl, Nat.le_refl _, fun _ _ => rfl⟩
                   rintro e wM ⟨rfl, hM⟩
                   first | have hB' := BM.out.trans (hM.mono BM.out.size) | have hB' : Below WK.heap.size WK wM := ⟨hM.os, hM.tape, hM.output, hM.size, hM.block⟩
                   have BM : Hid (Below WK.heap.size WK wM) := hB'
                   have zm0 := cell_grown d0 hB'
                   have zm1 := cell_grown d1 hB'
                   have zm2 := cell_grown p0 hB'
                   have zm3 := cell_grown p1 hB'
                   have zm4 := cell_grown kc hB'
                   have zma := cell_block zm0
                   have zmb := cell_block zm2
                   have zmc := cell_block zm4
                   clear hM hB')
                | (go_at_call 18; refine Calls.mono (HCK.out _ ?_) ?_; first | exact BM.out | exact ⟨rfl, rfl, rfl, Nat.le_refl _, fun _ _ => rfl⟩
                   rintro e wM ⟨rfl, hM⟩
                   first | have hB' := BM.out.trans (hM.mono BM.out.size) | have hB' : Below WK.heap.size WK wM := ⟨hM.os, hM.tape, hM.output, hM.size, hM.block⟩
                   have BM : Hid (Below WK.heap.size WK wM) := hB'
                   have zm0 := cell_grown d0 hB'
                   have zm1 := cell_grown d1 hB'
                   have zm2 := cell_grown p0 hB'
                   have zm3 := cell_grown p1 hB'
                   have zm4 := cell_grown kc hB'
                   have zma := cell_block zm0
                   have zmb := cell_block zm2
                   have zmc := cell_block zm4
                   clear hM hB')
                | (go_at_call 20; refine Calls.mono (HND.out _ ?_) ?_; first | exact BM.out | exact ⟨rfl, rfl, rfl, Nat.le_refl _, fun _ _ => rfl⟩
                   rintro e wM ⟨⟨x1, x2, rfl, hi1⟩, hM⟩
                   first | have hB' := BM.out.trans (hM.mono BM.out.size) | have hB' : Below WK.heap.size WK wM := ⟨hM.os, hM.tape, hM.output, hM.size, hM.block⟩
                   have BM : Hid (Below WK.heap.size WK wM) := hB'
                   have zm0 := cell_grown d0 hB'
                   have zm1 := cell_grown d1 hB'
                   have zm2 := cell_grown p0 hB'
                   have zm3 := cell_grown p1 hB'
                   have zm4 := cell_grown kc hB'
                   have zma := cell_block zm0
                   have zmb := cell_block zm2
                   have zmc := cell_block zm4
                   have HX1 : Hid (InIn wM x1 n R6.live) := hi1
                   clear hM hB' hi1)
                | (go_at_call 10; refine Calls.mono (HLV.out _ ?_) ?_; first | exact BM.out | exact ⟨rfl, rfl, rfl, Nat.le_refl _, fun _ _ => rfl⟩
                   rintro e wM ⟨⟨y1, y2, rfl, hi1⟩, hM⟩
                   have HX3 : Hid (InIn wM x1 n R6.live) := HX1.out.below (Nat.le_refl _) hM
                   first | have hB' := BM.out.trans (hM.mono BM.out.size) | have hB' : Below WK.heap.size WK wM := ⟨hM.os, hM.tape, hM.output, hM.size, hM.block⟩
                   have BM : Hid (Below WK.heap.size WK wM) := hB'
                   have zm0 := cell_grown d0 hB'
                   have zm1 := cell_grown d1 hB'
                   have zm2 := cell_grown p0 hB'
                   have zm3 := cell_grown p1 hB'
                   have zm4 := cell_grown kc hB'
                   have zma := cell_block zm0
                   have zmb := cell_block zm2
                   have zmc := cell_block zm4
                   have HX2 : Hid (InIn wM y1 n R6.live) := hi1
                   clear hM hB' hi1)
                | (go_at_call 19; refine Calls.mono (ints_same x1 _ _ y1 _ _ R6.live _ HX3.out HX2.out) ?_
                   rintro e wM ⟨rfl, hM⟩
                   first | have hB' := BM.out.trans (hM.mono BM.out.size) | have hB' : Below WK.heap.size WK wM := ⟨hM.os, hM.tape, hM.output, hM.size, hM.block⟩
                   have BM : Hid (Below WK.heap.size WK wM) := hB'
                   have zm0 := cell_grown d0 hB'
                   have zm1 := cell_grown d1 hB'
                   have zm2 := cell_grown p0 hB'
                   have zm3 := cell_grown p1 hB'
                   have zm4 := cell_grown kc hB'
                   have zma := cell_block zm0
                   have zmb := cell_block zm2
                   have zmc := cell_block zm4
                   clear hM hB'))
            all_goals
              go_wp2
              go_ret
              exact ⟨ret_b (by simp), HK.out.1.rn.bel.trans (BM.out.mono HK.out.1.rn.bel.size)⟩

/-! ### The row's step -/
set_option maxRecDepth 100000 in
theorem lifted (os : Os) (started : os.Started) (H : Type) (enc : TypeId × Value → H) :
    ReturnsInHanded {} Tryz.checked os 3 .any (Rows.wigwagRootSpec.pre6 enc Tryz.prog Tryz.f3 Rows.wigwagRootRow.domain false) (Rows.wigwagRootSpec.post enc Tryz.prog Tryz.f3 false true false false) := by
  refine returnsInHanded_of_change (C := Tryz.checked) own started (by kernel_rfl) Tryz.func3
    (ChangeSpec.witness6 (enc := enc) (C := Tryz.checked) false ⟨#[], #[.slice none 0 0, .string ByteArray.empty], []⟩ 8 (by kernel_rfl) (by kernel_rfl) (by kernel_rfl) (by kernel_rfl)) ?_
  intro W base args ds gs before hval0 hW hcnd _
  have hval : ∀ (j : Nat) t v, Tryz.f3.params[j]? = some t → args[j]? = some v → Value.okWide Tryz.prog W .any base t v := hval0
  have hW' := hW
  obtain ⟨p, q, hA0, hV, rfl, hfz, hnd⟩ := hW
  have hA : DataW.TrodAll enc Tryz.prog W 0 (fun _ => true) true Tryz.f3.params.toList args.toList ds p := hA0
  rw [Tryz.params3] at hA hval
  obtain ⟨v0, vs0, d0, ds0, p0, q0, hargs, rfl, rfl, h0, r0⟩ := trodAll_cons hA
  obtain ⟨v1, vs1, d1, ds1, p1, q1, rfl, rfl, rfl, h1, r1⟩ := trodAll_cons r0
  obtain ⟨rfl, rfl, rfl⟩ := trodAll_nil r1
  obtain rfl : args = #[v0, v1] := by cases args; simp_all
  obtain ⟨rfl, rfl⟩ := trodVars_none hV
  obtain ⟨a0, len0, cap0, rfl⟩ := okWide_slice Tryz.underlying22 (hval 0 22 v0 rfl rfl)
  have k0 := h0
  have lt0 : ∀ x ∈ p0, x.block < W.heap.size := by obtain ⟨m, hm⟩ := k0; exact DataW.trod_lt m _ _ _ hm
  obtain ⟨t0, w0⟩ : ∃ ts, InRow 4 Ac10.cells Ac10.ok ac100 W a0 len0 ts := by
    obtain ⟨fuel, hf⟩ := h0
    exact inrow_of 4 Ac10.cells Ac10.ok ac100 22 33 Tryz.underlying22 cellsAc10 (by omega) lenAc10 (fun n cs x => ac10_of n cs x) hf
  obtain ⟨a1, rfl, rfl, rfl, w1⟩ := open_string Tryz.underlying9 (hval 1 9 v1 rfl rfl) h1
  clear hA0 hval0
  refine (walk a0 len0 cap0 t0 a1 W w0 w1).mono fun e W' ⟨he, bel⟩ => ?_
  subst he
  exact ⟨_, rfl, _, _, _, [], _, [], hW', trodAll_mk1 (shut_bool Tryz.underlying4 _), (trodAll_cons_mk (Below.trod laidOut (by kernel_rfl) (of_decide_eq_true (by kernel_rfl)) k0 bel lt0) (trodAll_cons_mk (shut_string Tryz.underlying9 w1) trodAll_mk0)), rfl, bel.frame _, fun h => by cases h⟩

theorem over : Rows.wigwagRootRow.holds Tryz.pinned (OpenSpec.ofChange Rows.wigwagRootSpec) :=
  OpenClaim.holds_of_wide 3 Tryz.f3 rfl rfl rfl rfl rfl rfl rfl ⟨rfl, rfl, rfl, rfl, rfl⟩ rfl rfl rfl rfl rfl (by kernel_rfl) Tryz.func3 (by kernel_rfl)
    (of_decide_eq_true (by kernel_rfl)) (by unfold Func.isWrapper; first | (rw [if_pos (by decide +kernel)]; kernel_rfl) | (rw [if_neg (by decide +kernel)]; exact ⟨rfl, rfl⟩))
    (fun os started H enc _ => lifted os started H enc)

end Go.Proofs.YtmajlldfiiokoaaGreat.wigwagRoot

namespace Go.Proofs.YtmajlldfiiokoaaGreat
/-- Proved: for every list of calls and every name (names of more than 60 bytes apart): behind any 25 calls and so many rounds the root of the tree of all members is the first keeper of the group and the owner of its key, the tree is well, and its nodes are all that live. -/
theorem wigwagRoot_holds : Rows.WigwagRootSaid := wigwagRoot.over
#print axioms wigwagRoot_holds
end Go.Proofs.YtmajlldfiiokoaaGreat
