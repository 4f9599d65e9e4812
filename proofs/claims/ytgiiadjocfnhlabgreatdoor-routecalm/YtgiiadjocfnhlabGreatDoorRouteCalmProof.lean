/- Proved: for every list of places, every list of calls, every fix and every place: behind any 40 calls and so many rounds each way from any member ends at the owner, with no address twice, with the fingers of then and with those that are fixed behind it, which are those that should be; errors.errorType being laid as the program's text lays it (the card's tie, over the pruned copy).
  The frame is the guide's own shell (proof-skeleton.mjs) at this function; the walk and all ahead of it are mine. -/
import Derived.Test.YtgiiadjocfnhlabGreatDoorRows
import Derived.Test.YtgiiadjocfnhlabGreatDoorJoinPrInts
import Derived.Test.YtgiiadjocfnhlabGreatDoorJoinPeSame
import Derived.Test.YtgiiadjocfnhlabGreatDoorRfM
import Derived.Test.YtgiiadjocfnhlabGreatDoorInCap
import Derived.Test.YtgiiadjocfnhlabGreatDoorJoinJoinRtMath
import Derived.Deep.CutBlock
import Derived.Deep.DeepCutAuto
import Derived.Deep.LoopGhost
import Derived.WalkKit
import Derived.WalkLawsBesides
import Derived.ProofKit
import Derived.OpenShut
import Derived.ChangeSame
import Derived.ChangeVars
import Derived.JoinedOf
import Derived.RowKit
import Derived.RowKitTokens
import Derived.LaidLaws
import Derived.LaidHandle
import Derived.Stop.Joined
import Derived.SevenTiedAt
import Derived.Test.YtgiiadjocfnhlabGreatDoorTie
import Derived.Test.YtgiiadjocfnhlabGreatDoorCards
import Derived.ShutString
import Derived.ChangeOld
import Derived.Below
namespace Go.Proofs.YtgiiadjocfnhlabGreatDoor.routeCalm
open Go.ChangeShapes Go.WideShapes Go.ChangeAt Go.RowKit
open Go.ChangeMaps (open_string shut_string)
set_option linter.unusedVariables false

theorem own : ownKnob Tryz.prog.godebug = none := by kernel_rfl
theorem laidOut : laidOutB Tryz.prog = true := by kernel_rfl


theorem et : Tryz.prog.globalNamed "errors.errorType" = some 0 := by kernel_rfl
theorem rt : (Tryz.prog.cutTypes.find? (·.1 == "internal/reflectlite.rtype")).map (·.2) = some 160 := by kernel_rfl
theorem oneRow : ((List.range 232).filter fun t => Tryz.prog.rowNamed t [101, 114, 114, 111, 114]) = [44] := by kernel_rfl
theorem typesSize : Tryz.prog.types.size = 232 := by kernel_rfl
/-- What the tied variable gives a walk: its one cell. -/
theorem handle_of_laid {W : World} (h : laidMetH Tryz.prog Rows.routeCalmRow.laid W) : ErrType W := by
  have h' : laidMet Tryz.prog [] W ∧ handlesMet Tryz.prog Rows.routeCalmRow.laid W := h
  obtain ⟨name, u, ty, e1, e2, e3, e4, e5⟩ := h'.2 _ (List.mem_singleton.2 rfl)
  have en : name = [101, 114, 114, 111, 114] := (Option.some.inj e1).symm
  subst en
  obtain rfl := Option.some.inj (rt.symm.trans e2)
  have hm : ty ∈ (List.range 232).filter fun t => Tryz.prog.rowNamed t [101, 114, 114, 111, 114] := List.mem_filter.2 ⟨List.mem_range.2 (by rw [← typesSize]; exact e3), e4⟩
  rw [oneRow] at hm
  obtain rfl := List.mem_singleton.1 hm
  have hh : typeHandle Tryz.prog 44 = .pointer (some ⟨1, 44, none⟩) := by kernel_rfl
  rw [hh] at e5
  unfold ErrType
  simpa using World.var?_cell et e5 0

/-! ### STEP 1: the walk -/
set_option maxRecDepth 100000 in
set_option maxHeartbeats 20000000 in
theorem walk (a0 : Option Addr) (len0 cap0 : Nat) (t0 : List Int) (a1 : Option Addr) (len1 cap1 : Nat) (t1 : List Ac10) (a2 : Int) (a3 : Int) (w : World) (hE : ErrType w) (w0 : InRow 1 encU Go.Proofs.YtgiiadjocfnhlabGreatDoor.u64 0 w a0 len0 t0) (c0 : len0 ≤ cap0) (w1 : InRow 4 Ac10.cells Ac10.ok ac100 w a1 len1 t1) (c1 : len1 ≤ cap1) (w2 : (Lit.int .i64 a2).wf = true) (w3 : (Lit.int .u64 a3).wf = true) :
    Calls Tryz.prog 4 #[.slice a0 len0 cap0, .slice a1 len1 cap1, .int .i64 a2, .int .u64 a3] w fun e w' => e = .returned (.bool true) ∧ Below w.heap.size w w' := by
  have HMd : Hid _ := made_r a0 len0 cap0 t0 a1 len1 cap1 t1 0 w w0 c0 w1 hE (by omega)
  have HX3 : Hid (Plc a3) := by show Plc a3; obtain ⟨z0, z1⟩ := bounds_u64 w3; unfold Plc; omega
  have HT : Hid (AcIn w a1 len1 t1) := w1
  have hm1 := w1.2.1
  clear w0 w1 c0 c1 hE w2 w3
  go_enter Tryz.func4, Tryz.ntmps4
  go_wp2_with fail
  refine Calls.mono HMd.out ?_
  clear HMd
  rintro e w3 h3
  rcases h3 with ⟨x0, x1, x2, x3, rfl, hsl, b3⟩ | ⟨r, gp, gk, R, x0, x1, x2, x3, rfl, hsl, hrn, _⟩
  · obtain ⟨⟨p0, p1, p2, rfl⟩, ⟨p3, p4, p5, rfl⟩, ⟨p6, p7, p8, rfl⟩, ⟨p9, p10, p11, rfl⟩⟩ := hsl
    obtain ⟨W4, hW4⟩ : ∃ W4, W4 = w3.alloc (.cells #[.slice p0 p1 p2, .slice p3 p4 p5, .slice p6 p7 p8, .slice p9 p10 p11] 34) := ⟨_, rfl⟩
    have B4 : Hid (Below w.heap.size w W4) := by rw [hW4]; exact b3.trans ((below_one _ _).mono b3.size)
    clear b3
    go_upto_region 2 with fail
    rw [← hW4]
    clear hW4
    go_wp2_with fail
    refine (awake12_any _).mono ?_
    rintro e w5 ⟨rfl, b5⟩
    go_wp2
    go_ret
    exact ⟨rfl, B4.out.trans (b5.mono B4.out.size)⟩
  · obtain ⟨⟨p0, p1, p2, rfl⟩, ⟨p3, p4, p5, rfl⟩, ⟨p6, p7, p8, rfl⟩, ⟨p9, p10, p11, rfl⟩⟩ := hsl
    obtain ⟨W4, hW4⟩ : ∃ W4, W4 = w3.alloc (.cells #[.slice p0 p1 p2, .slice p3 p4 p5, .slice p6 p7 p8, .slice p9 p10 p11] 34) := ⟨_, rfl⟩
    have H4 : Hid (Rn w W4 r gp gk R) := by rw [hW4]; exact hrn.below (below_one _ _)
    clear hrn
    go_upto_region 2 with fail
    rw [← hW4]
    clear hW4
    generalize w3.heap.size = qz
    go_wp2_with fail
    refine (fnew_r w W4 r gp gk R H4.out).mono ?_
    rintro e w5 ⟨f, gm, rfl, h5⟩
    have H5 : Hid (∃ R G, Rt w w5 r gp gk f gm R G) := ⟨_, _, h5⟩
    clear h5 H4
    go_wp2
    go_loopg [13] len1 (fun kx s wr => ∃ k : Nat, s = .int .i64 k ∧ k ≤ len1 ∧ k ≤ 40 ∧ kx = len1 - k ∧ Hid (∃ R G, Rt w wr r gp gk f gm R G))
    case atStart => exact ⟨0, rfl, Nat.zero_le _, by omega, rfl, H5⟩
    case round =>
      obtain ⟨k, rfl, hk, hk40, rfl, HB⟩ := hrel
      clear H5
      obtain ⟨R, G, hS⟩ := HB.out
      have HS : Hid (Rt w wr r gp gk f gm R G) := hS
      clear hS HB
      by_cases hlt : k < len1 ∧ k < 40
      · obtain ⟨hlt, h40⟩ := hlt
        obtain ⟨b, o, rfl, hbb, hok, x0, x1, x2, x3⟩ := AcIn.at (HT.out.below (Nat.le_refl _) HS.out.rn.bel) hlt
        generalize t1.getD k ac100 = t at hok x0 x1 x2 x3
        obtain ⟨kd, n, via, id⟩ := t
        have HO : Hid (Ac10.ok ⟨kd, n, via, id⟩) := hok
        clear hok
        simp only at x0 x1 x2 x3
        obtain ⟨W3, hW3⟩ : ∃ W3, W3 = wr.alloc (.cells #[.int .i64 kd, .int .i64 n, .int .i64 via, .int .u64 id] 50) := ⟨_, rfl⟩
        have HA : Hid (Rt w W3 r gp gk f gm R G) := by rw [hW3]; exact HS.out.below (below_one _ _)
        have y0 : W3.cell? ⟨wr.heap.size, 0, none⟩ = some (.int .i64 kd) := by rw [hW3]; simp
        have y1 : W3.cell? ⟨wr.heap.size, 1, none⟩ = some (.int .i64 n) := by rw [hW3]; simp
        have y2 : W3.cell? ⟨wr.heap.size, 2, none⟩ = some (.int .i64 via) := by rw [hW3]; simp
        have y3 : W3.cell? ⟨wr.heap.size, 3, none⟩ = some (.int .u64 id) := by rw [hW3]; simp
        have zz := cell_block y0
        go_upto_region 9 with fail
        rw [← hW3]
        clear hW3 x0 x1 x2 x3 HS
        by_cases k1 : kd = 1
        · subst k1
          go_wp2_with fail
          refine (join_r r gp gk R n id via _ HA.out.rn.ring HO.out.2.2.2 HO.out.2.2.1).mono ?_
          rintro e w5 ⟨rfl, h5, k5⟩
          have H5 : Hid (Rt w w5 r gp gk f gm _ G) := HA.out.step h5 (HA.out.rn.inv.join n id via HO.out.2.2.2) k5
          clear h5 k5 y0 y1 y2 y3 zz
          by_cases hfx : (k : Int) = a2
          · have efx : ((k : Int) == a2) = true := by simpa using hfx
            clear hfx
            go_wp2_with (go_at_call 12; refine (fround_r w _ r gp gk f gm _ _ H5.out).mono ?_; rintro e w7 ⟨rfl, h7⟩)
            go_roundg (len1 - (k + 1))
            case measure => omega
            case rel => exact ⟨k + 1, by go_num, by omega, by omega, rfl, ⟨_, _, h7⟩⟩
          · have efx : ((k : Int) == a2) = false := by simpa using hfx
            clear hfx
            go_wp2
            go_roundg (len1 - (k + 1))
            case measure => omega
            case rel => exact ⟨k + 1, by go_num, by omega, by omega, rfl, ⟨_, _, H5.out⟩⟩
        have k1' : (kd == 1) = false := by simpa using k1
        by_cases k2 : kd = 2
        · subst k2
          go_wp2_with fail
          refine (fail_r r gp gk R n _ HA.out.rn.ring).mono ?_
          rintro e w5 ⟨rfl, h5, k5⟩
          have H5 : Hid (Rt w w5 r gp gk f gm _ G) := HA.out.step h5 (HA.out.rn.inv.fail n) k5
          clear h5 k5 y0 y1 y2 y3 zz
          by_cases hfx : (k : Int) = a2
          · have efx : ((k : Int) == a2) = true := by simpa using hfx
            clear hfx
            go_wp2_with (go_at_call 12; refine (fround_r w _ r gp gk f gm _ _ H5.out).mono ?_; rintro e w7 ⟨rfl, h7⟩)
            go_roundg (len1 - (k + 1))
            case measure => omega
            case rel => exact ⟨k + 1, by go_num, by omega, by omega, rfl, ⟨_, _, h7⟩⟩
          · have efx : ((k : Int) == a2) = false := by simpa using hfx
            clear hfx
            go_wp2
            go_roundg (len1 - (k + 1))
            case measure => omega
            case rel => exact ⟨k + 1, by go_num, by omega, by omega, rfl, ⟨_, _, H5.out⟩⟩
        have k2' : (kd == 2) = false := by simpa using k2
        by_cases k3 : kd = 3
        · subst k3
          go_wp2_with fail
          refine (stab_r r gp gk R n _ HA.out.rn.ring HO.out.2.1).mono ?_
          rintro e w5 ⟨rfl, h5, k5⟩
          have H5 : Hid (Rt w w5 r gp gk f gm _ G) := HA.out.step h5 (HA.out.rn.inv.stab n) k5
          clear h5 k5 y0 y1 y2 y3 zz
          by_cases hfx : (k : Int) = a2
          · have efx : ((k : Int) == a2) = true := by simpa using hfx
            clear hfx
            go_wp2_with (go_at_call 12; refine (fround_r w _ r gp gk f gm _ _ H5.out).mono ?_; rintro e w7 ⟨rfl, h7⟩)
            go_roundg (len1 - (k + 1))
            case measure => omega
            case rel => exact ⟨k + 1, by go_num, by omega, by omega, rfl, ⟨_, _, h7⟩⟩
          · have efx : ((k : Int) == a2) = false := by simpa using hfx
            clear hfx
            go_wp2
            go_roundg (len1 - (k + 1))
            case measure => omega
            case rel => exact ⟨k + 1, by go_num, by omega, by omega, rfl, ⟨_, _, H5.out⟩⟩
        have k3' : (kd == 3) = false := by simpa using k3
        by_cases k4 : kd = 4
        · subst k4
          go_wp2_with fail
          refine (round_r r gp gk R _ HA.out.rn.ring).mono ?_
          rintro e w5 ⟨rfl, h5, k5⟩
          have H5 : Hid (Rt w w5 r gp gk f gm _ G) := HA.out.step h5 (HA.out.rn.inv.round) k5
          clear h5 k5 y0 y1 y2 y3 zz
          by_cases hfx : (k : Int) = a2
          · have efx : ((k : Int) == a2) = true := by simpa using hfx
            clear hfx
            go_wp2_with (go_at_call 12; refine (fround_r w _ r gp gk f gm _ _ H5.out).mono ?_; rintro e w7 ⟨rfl, h7⟩)
            go_roundg (len1 - (k + 1))
            case measure => omega
            case rel => exact ⟨k + 1, by go_num, by omega, by omega, rfl, ⟨_, _, h7⟩⟩
          · have efx : ((k : Int) == a2) = false := by simpa using hfx
            clear hfx
            go_wp2
            go_roundg (len1 - (k + 1))
            case measure => omega
            case rel => exact ⟨k + 1, by go_num, by omega, by omega, rfl, ⟨_, _, H5.out⟩⟩
        have k4' : (kd == 4) = false := by simpa using k4
        by_cases hfx : (k : Int) = a2
        · have efx : ((k : Int) == a2) = true := by simpa using hfx
          clear hfx
          go_wp2_with (go_at_call 12; refine (fround_r w _ r gp gk f gm _ _ HA.out).mono ?_; rintro e w7 ⟨rfl, h7⟩)
          go_roundg (len1 - (k + 1))
          case measure => omega
          case rel => exact ⟨k + 1, by go_num, by omega, by omega, rfl, ⟨_, _, h7⟩⟩
        · have efx : ((k : Int) == a2) = false := by simpa using hfx
          clear hfx
          go_wp2
          go_roundg (len1 - (k + 1))
          case measure => omega
          case rel => exact ⟨k + 1, by go_num, by omega, by omega, rfl, ⟨_, _, HA.out⟩⟩
      · have hq2 : k < len1 → ¬ (k : Int) < 40 := fun h1 h2 => hlt ⟨h1, by omega⟩
        clear hlt
        have hll : R.live.length ≤ 32 := liveTo_len R 32
        obtain ⟨n, hn⟩ : ∃ n, n = R.live.length := ⟨_, rfl⟩
        rw [← hn] at hll
        have HN : Hid (n = R.live.length) := hn
        clear hn
        obtain ⟨w4, hw4⟩ : ∃ w4, w4 = wr := ⟨_, rfl⟩
        rw [← hw4] at HS ⊢
        clear hw4
        by_cases q3 : k < len1
        all_goals
          first
            | (have q5 := hq2 q3
               clear hq2
               go_wp2)
            | (clear hq2
               go_wp2)
          go_loopg [15] (4 * n + 8) (fun kx s wr => ∃ j : Nat, s = .int .i64 j ∧ j ≤ 4 * n + 8 ∧ kx = 4 * n + 8 - j ∧ Hid (Rt w wr r gp gk f gm (R.rounds j) G))
          case atStart => exact ⟨0, rfl, Nat.zero_le _, rfl, (HS.out : Rt w w4 r gp gk f gm (R.rounds 0) G)⟩
          case round =>
            obtain ⟨j, rfl, hj, rfl, HB⟩ := hrel
            have HLn : Hid ((R.rounds j).live.length = n) := by show (R.rounds j).live.length = n; rw [(alike_rounds R j).live]; exact HN.out.symm
            by_cases hjl : j < 4 * n + 8
            · have hjl' : (j : Int) < 4 * (n : Int) + 8 := by omega
              go_wp2_with fail
              refine (live_r r gp gk (R.rounds j) _ HB.out.rn.ring).mono ?_
              rintro e w5 ⟨la, lc, rfl, _, _, b5⟩
              rw [HLn.out]
              have H5 : Hid (Rt w w5 r gp gk f gm (R.rounds j) G) := HB.out.below b5
              clear b5
              go_wp2_with (first
                | (go_at_call 32; refine (rounds_r n _ (by omega)).mono ?_; rintro e w' ⟨rfl, rfl⟩)
                | (go_at_call 31; refine (round_r r gp gk (R.rounds j) _ H5.out.rn.ring).mono ?_; rintro e w6 ⟨rfl, h6, k6⟩))
              go_roundg (4 * n + 8 - (j + 1))
              case measure => omega
              case rel => exact ⟨j + 1, by go_num, by omega, rfl, (H5.out.step h6 H5.out.rn.inv.round k6 : Rt w w6 r gp gk f gm (R.rounds (j + 1)) G)⟩
            · obtain rfl : j = 4 * n + 8 := by omega
              have hjl' : ¬ ((4 * n + 8 : Nat) : Int) < 4 * (n : Int) + 8 := by omega
              have hrg := HS.out.rn.inv.calm (m := 4 * n + 8) (by have := HN.out; omega)
              have HRG : Hid (Rgt 3 (R.rounds (4 * n + 8))) := hrg
              clear hrg
              generalize R.rounds (4 * n + 8) = R6 at HB HRG HLn
              obtain ⟨w6, hw6⟩ : ∃ w6, w6 = wr := ⟨_, rfl⟩
              rw [← hw6] at HB ⊢
              clear hw6
              go_wp2_with fail
              refine (live_r r gp gk R6 _ HB.out.rn.ring).mono ?_
              rintro e w7 ⟨la, lc, rfl, _, _, b7⟩
              rw [HLn.out]
              have H7 : Hid (Rt w w7 r gp gk f gm R6 G) := HB.out.below b7
              clear b7 HB HS HN
              go_wp2_with fail
              refine (rounds_r n _ (by omega)).mono ?_
              rintro e w' ⟨rfl, hw'⟩
              subst w'
              go_wp2_with fail
              refine (of_r r gp gk R6 _ H7.out.rn.ring HRG.out.1).mono ?_
              rintro e w8 ⟨C, g, b, c, d, rfl, hC, hm, hc1, hc2, hp, hd, b8⟩
              rw [HLn.out] at hm hp ⊢
              have h4 : 4 ≤ n := by rw [← HLn.out]; exact live_four HRG.out.1
              have hcl : C.length = n := by rw [hC.len]; exact HLn.out
              obtain ⟨ko, hko, hkl⟩ := owner_rng (C.map R6.idOf) a3 (by rw [List.length_map]; omega)
              rw [List.length_map, hcl] at hkl
              obtain ⟨W9, hW9⟩ : ∃ W9, W9 = w8.alloc (.cells #[.slice (some ⟨g, 0, none⟩) n c, .slice b n d] 75) := ⟨_, rfl⟩
              have H9 : Hid (∃ G, Rt w W9 r gp gk f gm R6 G ∧ CirM W9 w8.heap.size g b c d n C R6 ∧ (0 = 1 → False)) := by
                rw [hW9]
                exact ⟨G, (H7.out.below b8).below (below_one _ _), ⟨heap_alloc_new w8 _, hm.below (Nat.le_refl _) (below_one _ _), hp.below (Nat.le_refl _) (below_one _ _)⟩, by omega⟩
              obtain ⟨oo, hoo⟩ : ∃ o, o = C.getD ko 0 := ⟨_, rfl⟩
              have HC : Hid (Cir R6 C ∧ C.length = n ∧ ownerN (C.map R6.idOf) a3 = ko ∧ C.getD ko 0 = oo) := ⟨hC, hcl, hko, hoo.symm⟩
              have HEND : Hid (∀ y, R6.lives y = true → ∀ G, R6.nextTo G a3 y = y → y = oo) := fun y hy G hs => by
                obtain ⟨k2, hk2, h1, h2⟩ := stop_owner HRG.out HC.out.1 HX3.out hy hs
                rw [HC.out.2.2.1] at h1
                have e2 : k2 = ko := by omega
                rw [← h2, e2, HC.out.2.2.2]
              clear hC hm hc1 hc2 hp hd b8 hko hcl hoo H7
              go_upto_region 25 with fail
              rw [← hW9]
              clear hW9
              generalize w8.heap.size = q at H9 ⊢
              go_wp2
              go_loopg [17] 2 (fun kx s wr => ∃ t : Nat, s = .int .i64 t ∧ t ≤ 2 ∧ kx = 2 - t ∧ Hid (∃ G, Rt w wr r gp gk f gm R6 G ∧ CirM wr q g b c d n C R6 ∧ (1 ≤ t → ∀ y, R6.lives y = true → G y = runs (ownL R6 C y 64))))
              case atStart => exact ⟨0, rfl, by omega, rfl, by obtain ⟨G, h1, h2, _⟩ := H9.out; exact ⟨G, h1, h2, fun e => by omega⟩⟩
              case round =>
                obtain ⟨t, rfl, ht, rfl, HB⟩ := hrel
                clear H9
                obtain ⟨G, hR, hM, hG⟩ := HB.out
                have HR : Hid (Rt w wr r gp gk f gm R6 G ∧ CirM wr q g b c d n C R6) := ⟨hR, hM⟩
                have HG : Hid (1 ≤ t → ∀ y, R6.lives y = true → G y = runs (ownL R6 C y 64)) := hG
                clear hR hM hG HB
                by_cases htl : t < 2
                · have htI : (t : Int) < 2 := by omega
                  go_wp2_with fail
                  refine (live_r r gp gk R6 _ HR.out.1.rn.ring).mono ?_
                  rintro e w10 ⟨lb, ld, rfl, hlb, _, b10⟩
                  rw [HLn.out] at hlb ⊢
                  have H10 : Hid (Rt w w10 r gp gk f gm R6 G ∧ CirM w10 q g b c d n C R6 ∧ InIn w10 lb n R6.live) := ⟨HR.out.1.below b10, HR.out.2.below b10, hlb⟩
                  clear b10 hlb HR
                  go_wp2
                  go_loopg [105] n (fun kx s wr => ∃ i : Nat, s = .int .i64 i ∧ i ≤ n ∧ kx = n - i ∧ Hid (Below w10.heap.size w10 wr))
                  case atStart => exact ⟨0, rfl, Nat.zero_le _, rfl, (Below.refl _ _ : Below w10.heap.size w10 w10)⟩
                  case round =>
                    obtain ⟨i, rfl, hi, rfl, HB⟩ := hrel
                    by_cases hil : i < n
                    · have hiI : (0 : Int) ≤ (i : Int) ∧ (i : Int) < (n : Int) := by omega
                      obtain ⟨mb, mo, hmb, hml, _, hmc⟩ := (H10.out.2.2.below (Nat.le_refl _) HB.out).one (v := Value.int .i64) (fun _ => rfl) (i := i) hil
                      subst hmb
                      have hmem : R6.live.getD i 0 ∈ R6.live := by rw [List.getD_eq_getElem?_getD, List.getElem?_eq_getElem (by have := HLn.out; omega)]; simp
                      obtain ⟨y, hy⟩ : ∃ y, y = R6.live.getD i 0 := ⟨_, rfl⟩
                      rw [← hy] at hmc hmem
                      have HY : Hid (R6.lives y = true) := ((mem_live R6 _).1 hmem).2.2
                      clear hmem hy
                      go_wp2_with fail
                      refine (path_calmc r gp gk f gm R6 G y a3 _ (H10.out.1.rn.ring.below HB.out) (H10.out.1.fg.below HB.out) HRG.out HX3.out HY.out).mono ?_
                      rintro e w11 ⟨kk, wa, wc, hkk, hs, rfl, hin, hwcc, b11⟩
                      rw [HLn.out] at hkk
                      have hnd := way_nodup HRG.out.1 HX3.out HRG.out.2.1 HY.out hs.1
                      have hend : R6.hopTo G a3 y kk = oo := HEND.out _ (hop_lives HRG.out.1 HX3.out HY.out kk) G hs.2
                      obtain ⟨m, hme⟩ : ∃ m, m = kk + 1 := ⟨_, rfl⟩
                      rw [← hme] at hin hnd hwcc ⊢
                      have HWC : Hid (m ≤ wc) := hwcc
                      clear hwcc
                      obtain ⟨qb, qo, hqb, hql, _, hqc⟩ := hin.one (v := Value.int .i64) (fun _ => rfl) (i := kk) (by omega)
                      subst hqb
                      rw [way_getD R6 G a3 y (by omega), hend] at hqc
                      have H11 : Hid (Below w10.heap.size w10 w11 ∧ CirM w11 q g b c d n C R6 ∧ InIn w11 (some ⟨qb, qo, none⟩) m (R6.way G a3 y m) ∧ (R6.way G a3 y m).Nodup) := ⟨HB.out.trans (b11.mono HB.out.size), (H10.out.2.1.below HB.out).below b11, hin, hnd⟩
                      have hm0 : 1 ≤ m := by omega
                      have hm33 : m ≤ 33 := by omega
                      have hsub : IntKind.i64.wrap ((m : Int) - 1) = (kk : Int) := by simp [IntKind.wrap, IntKind.bits, IntKind.signed]; omega
                      have hm1' : ¬ ((m : Int) < 1) := by omega
                      have d1 : decide ((m : Int) < 1) = false := decide_eq_false hm1'
                      have hkI : (0 : Int) ≤ (kk : Int) ∧ (kk : Int) < (m : Int) := by omega
                      have noo : (oo != oo) = false := by simp
                      have hbx := H11.out.2.1.box
                      have c0 : w11.cell? ⟨q, 0, none⟩ = some (.slice (some ⟨g, 0, none⟩) n c) := by simp [World.cell?, hbx]
                      have c1 : w11.cell? ⟨q, 1, none⟩ = some (.slice b n d) := by simp [World.cell?, hbx]
                      have cl := cell_block c0
                      clear b11 hin hnd hs hme hend hkk hmc hml hbx
                      go_upto_region 32 with fail
                      obtain ⟨ι, F, _, hF0, hFb, hFc⟩ := grown_fam w11
                      have f0 : ∀ i', (F i').cell? ⟨q, 0, none⟩ = _ := fun i' => cell_grown c0 (hFb i')
                      have f1 : ∀ i', (F i').cell? ⟨q, 1, none⟩ = _ := fun i' => cell_grown c1 (hFb i')
                      have f2 : ∀ i', (F i').cell? ⟨qb, qo + kk, none⟩ = _ := fun i' => cell_grown hqc (hFb i')
                      have HF : Hid ((∃ i', { w11 with drawn := w11.drawn + 1 } = F i') ∧ (∀ i', Below w11.heap.size w11 (F i')) ∧ (∀ i' W, Below w11.heap.size (F i') W → ∃ j, W = F j)) := ⟨hF0, hFb, hFc⟩
                      have HFC : Hid (∀ i', CirM (F i') q g b c d n C R6 ∧ InIn (F i') (some ⟨qb, qo, none⟩) m (R6.way G a3 y m)) := fun i' => ⟨H11.out.2.1.below (hFb i'), H11.out.2.2.1.below (Nat.le_refl _) (hFb i')⟩
                      clear hF0 hFb hFc c0 c1 hqc
                      refine wp_region_fam F HF.out.1 (by kernel_rfl) (by kernel_rfl) ?_
                      repeat (go_big_quiet_step (first
                        | (go_at_call 35; refine (cowner_r R6 C g c d n ko b a3 _ (HFC.out _).1.mem (HFC.out _).1.ids h4 HC.out.2.2.1 hkl).mono ?_; rintro e' w' ⟨hs, hb⟩; exact ⟨by rw [hs, HC.out.2.2.2], HF.out.2.2 _ _ (hb.mono (HF.out.2.1 _).size)⟩)
                        | (go_at_call 36; refine (twice_r _ m wc _ _ (HFC.out _).2 H11.out.2.2.2 HWC.out).mono ?_; rintro e' w' ⟨hs, hb⟩; exact ⟨by rw [hs], HF.out.2.2 _ _ (hb.mono (HF.out.2.1 _).size)⟩)))
                      refine wpQuiet_nil ?_
                      rintro _ ⟨i3, rfl⟩
                      have H12 : Hid (Below w10.heap.size w10 (F i3)) := H11.out.1.trans ((HF.out.2.1 i3).mono H11.out.1.size)
                      clear f0 f1 f2 HF HFC hql cl
                      generalize F i3 = W12 at H12 ⊢
                      go_wp2
                      go_roundg (n - (i + 1))
                      case measure => omega
                      case rel => exact ⟨i + 1, by go_num, by omega, rfl, H12⟩
                    · have H11 : Hid (Rt w wr r gp gk f gm R6 G ∧ CirM wr q g b c d n C R6) := ⟨H10.out.1.below HB.out, H10.out.2.1.below HB.out⟩
                      go_wp2_with (go_at_call 12; refine (fround_k w _ r gp gk f gm R6 G H11.out.1).mono ?_; rintro e w12 ⟨rfl, h12, k12⟩)
                      go_roundg (2 - (t + 1))
                      case measure => omega
                      case rel =>
                        obtain ⟨mm, hmm, _⟩ := H11.out.1.fg.map
                        exact ⟨t + 1, by go_num, by omega, rfl, ⟨_, h12, H11.out.2.kg hmm k12, fun _ y hy => round_fin HRG.out HC.out.1 G hy⟩⟩
                · obtain rfl : t = 2 := by omega
                  have HGG : Hid (∀ y, R6.lives y = true → G y = runs (ownL R6 C y 64)) := HG.out (by omega)
                  clear HG
                  go_wp2_with fail
                  refine (live_r r gp gk R6 _ HR.out.1.rn.ring).mono ?_
                  rintro e w10 ⟨lb, ld, rfl, hlb, _, b10⟩
                  rw [HLn.out] at hlb ⊢
                  have H10 : Hid (Rt w w10 r gp gk f gm R6 G ∧ CirM w10 q g b c d n C R6 ∧ InIn w10 lb n R6.live) := ⟨HR.out.1.below b10, HR.out.2.below b10, hlb⟩
                  clear b10 hlb HR
                  go_wp2
                  go_loopg [146] n (fun kx s wr => ∃ i : Nat, s = .int .i64 i ∧ i ≤ n ∧ kx = n - i ∧ Hid (Below w10.heap.size w10 wr))
                  case atStart => exact ⟨0, rfl, Nat.zero_le _, rfl, (Below.refl _ _ : Below w10.heap.size w10 w10)⟩
                  case round =>
                    obtain ⟨i, rfl, hi, rfl, HB⟩ := hrel
                    by_cases hil : i < n
                    · have hiI : (0 : Int) ≤ (i : Int) ∧ (i : Int) < (n : Int) := by omega
                      obtain ⟨mb, mo, hmb, hml, _, hmc⟩ := (H10.out.2.2.below (Nat.le_refl _) HB.out).one (v := Value.int .i64) (fun _ => rfl) (i := i) hil
                      subst hmb
                      have hmem : R6.live.getD i 0 ∈ R6.live := by rw [List.getD_eq_getElem?_getD, List.getElem?_eq_getElem (by have := HLn.out; omega)]; simp
                      obtain ⟨y, hy⟩ : ∃ y, y = R6.live.getD i 0 := ⟨_, rfl⟩
                      rw [← hy] at hmc hmem
                      have HY : Hid (R6.lives y = true) := ((mem_live R6 _).1 hmem).2.2
                      clear hmem hy
                      obtain ⟨jc, hjc, hjx⟩ := HC.out.1.at_ HY.out
                      rw [HC.out.2.1] at hjc
                      have HJ : Hid (C.getD jc 0 = y ∧ ∀ u, u < jc → C.getD u 0 ≠ C.getD jc 0) := ⟨hjx, fun u hu e => by have := HC.out.1.inj (by rw [HC.out.2.1]; omega) (by rw [HC.out.2.1]; exact hjc) e; omega⟩
                      clear hjx
                      obtain ⟨wb, hwb⟩ : ∃ x, x = wr := ⟨_, rfl⟩
                      have HG0 : Hid (Gi wb (wr.alloc (.cells #[] 3)) (.slice (some ⟨wr.heap.size, 0, none⟩) 0 0) 0 (runs (ownL R6 C y 0)) ∧ Below w10.heap.size w10 wb) := by
                        rw [hwb]
                        exact ⟨⟨⟨rfl, .inr ⟨wr.heap.size, 0, #[], rfl, Nat.le_refl _, heap_alloc_new wr _, Nat.le_refl _, by decide, rfl, rfl⟩⟩, below_one _ _⟩, HB.out⟩
                      obtain ⟨i0, hif, hz0, hz1, hz2⟩ := info_of Tryz.infoInt
                      clear hwb
                      go_wp2
                      clear hmc hml
                      go_loopg [24, 25] 64 (fun kx lv s wr => ∃ (k6 m : Nat) (a : Option Addr) (c6 : Nat), s = .int .i64 k6 ∧ lv = .slice a m c6 ∧ m ≤ k6 ∧ k6 ≤ 64 ∧ kx = 64 - k6 ∧ Hid (Gi wb wr (.slice a m c6) m (runs (ownL R6 C y k6))))
                      case atStart => exact ⟨0, 0, _, 0, rfl, rfl, Nat.le_refl _, by omega, rfl, HG0.out.1⟩
                      case round =>
                        obtain ⟨k6, m, a, c6, rfl, rfl, hmk, hk6, rfl, HL6⟩ := hrel
                        have BB : Hid (Below w10.heap.size w10 wr) := HG0.out.2.trans (HL6.out.bel.mono HG0.out.2.size)
                        have HM6 : Hid (CirM wr q g b c d n C R6) := H10.out.2.1.below BB.out
                        have hrl : (runs (ownL R6 C y k6)).length = m := by have := HL6.out.row.1; simpa using this
                        have HRI : Hid (∀ z ∈ runs (ownL R6 C y k6), i64 z) := fun z hz => by
                          have q := compact_runs _ (ownL R6 C y k6) rfl
                          rw [← q, ← fin_calm HRG.out HC.out.1 G HY.out] at hz
                          exact fin_i64 HRG.out.1 HY.out k6 z (rt_compact_mem z hz)
                        by_cases hk6l : k6 < 64
                        · have hk6I : (k6 : Int) < 64 := by omega
                          have hbx := HM6.out.box
                          have c0 : wr.cell? ⟨q, 0, none⟩ = some (.slice (some ⟨g, 0, none⟩) n c) := by simp [World.cell?, hbx]
                          have c1 : wr.cell? ⟨q, 1, none⟩ = some (.slice b n d) := by simp [World.cell?, hbx]
                          have cl := cell_block c0
                          have hst := start_rng (R6.idOf y) k6 (HRG.out.1.u y)
                          obtain ⟨kf, hkf, hkfl⟩ := owner_rng (C.map R6.idOf) (startN (R6.idOf y) k6) (by rw [List.length_map, HC.out.2.1]; omega)
                          rw [List.length_map, HC.out.2.1] at hkfl
                          obtain ⟨z, hz⟩ : ∃ z, z = C.getD kf 0 := ⟨_, rfl⟩
                          have HFN : Hid (∀ W, CirM W q g b c d n C R6 → Calls Tryz.prog 37 #[.agg #[.slice (some ⟨g, 0, none⟩) n c, .slice b n d], .int .i64 y, .int .i64 k6] W fun e w' => e = .returned (.int .i64 z) ∧ Below W.heap.size W w') := fun W hW => by
                            have h := cfinger_r R6 C g c d n jc k6 kf b W hW.mem hW.ids h4 hjc HJ.out.2 (by omega) (by rw [HJ.out.1]; exact hkf) hkfl
                            rw [HJ.out.1, ← hz] at h
                            exact h
                          have HON : Hid (runs (ownL R6 C y (k6 + 1)) = if (runs (ownL R6 C y k6)).getLast? = some z then runs (ownL R6 C y k6) else runs (ownL R6 C y k6) ++ [z]) := by
                            show _ = _
                            rw [ownL_succ, runs_snoc, hkf]
                            simp only [Int.toNat_natCast]
                            rw [← hz]
                          clear hst hkf hkfl hz hbx
                          go_wp2_with fail
                          refine Calls.mono (HFN.out _ HM6.out) ?_
                          rintro e w13 ⟨rfl, b13⟩
                          have H13 : Hid (Gi wb w13 (.slice a m c6) m (runs (ownL R6 C y k6))) := HL6.out.below b13
                          clear b13 c0 c1 cl HM6 HL6 BB HFN
                          by_cases hm0 : m = 0
                          · subst hm0
                            have hr0 : runs (ownL R6 C y k6) = [] := List.eq_nil_of_length_eq_zero hrl
                            have HA : Hid ((w13.alloc (.cells #[.int .i64 z] 3)).ownsRow wb.heap.size 3 1 (.slice a 0 c6) 0 ((runs (ownL R6 C y k6)).map cellI)) := (H13.out.below (below_one _ _)).row
                            have HSz : Hid (wb.heap.size ≤ w13.heap.size) := H13.out.bel.size
                            have HR0 : Hid (runs (ownL R6 C y (k6 + 1)) = runs (ownL R6 C y k6) ++ [z]) := by
                              show _ = _
                              rw [HON.out, hr0]; simp
                            clear hr0 hrl
                            go_wp2_with (at_builtin; refine wpList_own_append _ rfl _ _ 24 24 rfl wb.heap.size 3 i0 _ 8 Tryz.underlying24 hif hz0 hz1 hz2 rfl _ _ _ rfl HA.out _ 1 [cellI z] rfl (src_oneI w13 z) ?c3 ?c4 ?c5 ?_)
                            case c3 => unfold maxLen; omega
                            case c4 => omega
                            case c5 => have := HSz.out; simp; omega
                            intro v' w14 ha
                            obtain ⟨a', c', rfl⟩ := ha.shape
                            have H14 : Hid (Gi wb w14 (.slice a' (0 + 1) c') (0 + 1) (runs (ownL R6 C y (k6 + 1)))) := by
                              have := (H13.out.below (below_one _ _)).app ha
                              rw [HR0.out]; exact this
                            clear ha HA HSz H13
                            go_wp2
                            go_roundg (64 - (k6 + 1))
                            case measure => omega
                            case rel => exact ⟨k6 + 1, 0 + 1, a', c', by go_num, by simp, by omega, by omega, rfl, H14⟩
                          · have hin := H13.out.in HRI.out (by omega)
                            obtain ⟨lb6, lo6, hlb6, hll6, _, hlc6⟩ := hin.1.one (v := Value.int .i64) (fun _ => rfl) (i := m - 1) (by omega)
                            subst hlb6
                            have hgl : (runs (ownL R6 C y k6)).getLast? = some ((runs (ownL R6 C y k6)).getD (m - 1) 0) := by
                              have hlt' : m - 1 < (runs (ownL R6 C y k6)).length := by omega
                              rw [List.getLast?_eq_getElem?, hrl, List.getD_eq_getElem?_getD, List.getElem?_eq_getElem hlt']; rfl
                            obtain ⟨x6, hx6⟩ : ∃ x, x = (runs (ownL R6 C y k6)).getD (m - 1) 0 := ⟨_, rfl⟩
                            rw [← hx6] at hlc6 hgl
                            obtain ⟨mp, hmp⟩ : ∃ mp, m = mp + 1 := ⟨m - 1, by omega⟩
                            subst hmp
                            simp only [Nat.add_sub_cancel] at hlc6
                            have hsub : IntKind.i64.wrap (((mp + 1 : Nat) : Int) - 1) = (mp : Int) := by simp [IntKind.wrap, IntKind.bits, IntKind.signed]; omega
                            have e00 : ((((mp + 1 : Nat) : Int)) == 0) = false := by simp; omega
                            have e01 : (((mp : Int) + 1) == 0) = false := by simp; omega
                            have hmpI : (0 : Int) ≤ (mp : Int) ∧ (mp : Int) < ((mp + 1 : Nat) : Int) := by omega
                            clear hin hx6
                            by_cases hzx : x6 = z
                            · have ezx : (x6 != z) = false := by simpa using hzx
                              have HR1 : Hid (runs (ownL R6 C y (k6 + 1)) = runs (ownL R6 C y k6)) := by
                                show _ = _
                                rw [HON.out, hgl, hzx, if_pos rfl]
                              clear hzx hgl hrl
                              go_wp2
                              go_roundg (64 - (k6 + 1))
                              case measure => omega
                              case rel => exact ⟨k6 + 1, mp + 1, _, c6, by go_num, rfl, by omega, by omega, rfl, by rw [HR1.out]; exact H13.out⟩
                            · have ezx : (x6 != z) = true := by simpa using hzx
                              have HR1 : Hid (runs (ownL R6 C y (k6 + 1)) = runs (ownL R6 C y k6) ++ [z]) := by
                                show _ = _
                                rw [HON.out, hgl, if_neg (fun e => hzx (Option.some.inj e))]
                              clear hzx hgl hrl
                              have HA : Hid ((w13.alloc (.cells #[.int .i64 z] 3)).ownsRow wb.heap.size 3 1 (.slice (some ⟨lb6, lo6, none⟩) (mp + 1) c6) (mp + 1) ((runs (ownL R6 C y k6)).map cellI)) := (H13.out.below (below_one _ _)).row
                              have HSz : Hid (wb.heap.size ≤ w13.heap.size) := H13.out.bel.size
                              go_wp2_with (at_builtin; refine wpList_own_append _ rfl _ _ 24 24 rfl wb.heap.size 3 i0 _ 8 Tryz.underlying24 hif hz0 hz1 hz2 rfl _ _ _ rfl HA.out _ 1 [cellI z] rfl (src_oneI w13 z) ?c3 ?c4 ?c5 ?_)
                              case c3 => unfold maxLen; omega
                              case c4 => omega
                              case c5 => have := HSz.out; simp; omega
                              intro v' w14 ha
                              obtain ⟨a', c', rfl⟩ := ha.shape
                              have H14 : Hid (Gi wb w14 (.slice a' (mp + 1 + 1) c') (mp + 1 + 1) (runs (ownL R6 C y (k6 + 1)))) := by
                                have := (H13.out.below (below_one _ _)).app ha
                                rw [HR1.out]; exact this
                              clear ha HA HSz H13
                              go_wp2
                              go_roundg (64 - (k6 + 1))
                              case measure => omega
                              case rel => exact ⟨k6 + 1, mp + 1 + 1, a', c', by go_num, by simp, by omega, by omega, rfl, H14⟩
                        · obtain rfl : k6 = 64 := by omega
                          have hgy := HGG.out y HY.out
                          have HGY : Hid (G y = runs (ownL R6 C y 64) ∧ (runs (ownL R6 C y 64)).length = m) := ⟨hgy, hrl⟩
                          have hin := HL6.out.in HRI.out (by omega)
                          have HIN6 : Hid (InIn wr a m (runs (ownL R6 C y 64))) := hin.1
                          clear hin hgy hrl
                          go_wp2_with fail
                          refine (fof_r f r gm G y _ (H10.out.1.fg.below BB.out) (by rw [HGY.out.1, HGY.out.2]; omega)).mono ?_
                          rintro e w13 ⟨fa, fc, rfl, hfin, b13⟩
                          rw [HGY.out.1] at hfin ⊢
                          rw [HGY.out.2] at hfin ⊢
                          have H13 : Hid (Below w10.heap.size w10 w13 ∧ InIn w13 fa m (runs (ownL R6 C y 64)) ∧ InIn w13 a m (runs (ownL R6 C y 64))) := ⟨BB.out.trans (b13.mono BB.out.size), hfin, HIN6.out.below (Nat.le_refl _) b13⟩
                          clear hfin b13 HIN6 HGY BB HM6 HL6
                          go_wp2_with fail
                          refine (ints_any fa m fc _ a m c6 _ _ H13.out.2.1 H13.out.2.2).mono ?_
                          rintro e w14 ⟨rfl, b14⟩
                          rw [show intsB (runs (ownL R6 C y 64)) (runs (ownL R6 C y 64)) = true from ints_all rfl (fun _ _ => rfl)]
                          have H14 : Hid (Below w10.heap.size w10 w14) := H13.out.1.trans (b14.mono H13.out.1.size)
                          clear b14 H13
                          go_wp2
                          go_roundg (n - (i + 1))
                          case measure => omega
                          case rel => exact ⟨i + 1, by go_num, by omega, rfl, H14⟩
                    · go_wp2_with (go_at_call 10; refine (awake12_any _).mono ?_; rintro e w13 ⟨rfl, b13⟩)
                      go_ret
                      have hbb := (H10.out.1.below HB.out).rn.bel
                      exact ⟨rfl, hbb.trans (b13.mono hbb.size)⟩

/-! ### The row's step -/
set_option maxRecDepth 100000 in
theorem lifted (os : Os) (started : os.Started) (H : Type) (enc : TypeId × Value → H) :
    ReturnsInHanded {} Tryz.checked os 4 .any (fun w args => (Rows.routeCalmSpec.pre enc Tryz.prog Tryz.f4 [] false w args ∧ laidMetH Tryz.prog Rows.routeCalmRow.laid w) ∧ sizedMet enc Tryz.prog Tryz.f4 (OpenSpec.ofChange Rows.routeCalmSpec) false w args) (Rows.routeCalmSpec.post enc Tryz.prog Tryz.f4 false true false false) := by
  refine returnsInHanded_of_change_and (C := Tryz.checked) (X := fun w _ => laidMetH Tryz.prog Rows.routeCalmRow.laid w) (fun _ _ _ hh h => h.of_heap hh) own started (by kernel_rfl) Tryz.func4
    (ChangeSpec.witness_at (enc := enc) (C := Tryz.checked) (os := os) (X := fun w _ => laidMetH Tryz.prog Rows.routeCalmRow.laid w) false ({ World.holding Tryz.prog os ⟨#[], #[], []⟩ with heap := (World.holding Tryz.prog os ⟨#[], #[], []⟩).heap.modify 0 fun | .cells _ t frozen => .cells #[.iface 160 (.agg #[.pointer (some ⟨1, 44, none⟩)])] t frozen | o => o }) #[.slice none 0 0, .slice none 0 0, .int .i64 0, .int .u64 0] 8 rfl (by kernel_rfl) (by kernel_rfl) (by kernel_rfl) (by kernel_rfl) (by kernel_rfl) (laidMetH_of_parts (laidMet_nil _ _) (by kernel_rfl))) ?_
  intro W base args ds gs before hval0 hW _ _ hL _
  have hval : ∀ (j : Nat) t v, Tryz.f4.params[j]? = some t → args[j]? = some v → Value.okWide Tryz.prog W .any base t v := hval0
  have hW' := hW
  obtain ⟨p, q, hA0, hV, rfl, hfz, hnd⟩ := hW
  have hA : DataW.TrodAll enc Tryz.prog W 0 (fun _ => true) true Tryz.f4.params.toList args.toList ds p := hA0
  rw [Tryz.params4] at hA hval
  obtain ⟨v0, vs0, d0, ds0, p0, q0, hargs, rfl, rfl, h0, r0⟩ := trodAll_cons hA
  obtain ⟨v1, vs1, d1, ds1, p1, q1, rfl, rfl, rfl, h1, r1⟩ := trodAll_cons r0
  obtain ⟨v2, vs2, d2, ds2, p2, q2, rfl, rfl, rfl, h2, r2⟩ := trodAll_cons r1
  obtain ⟨v3, vs3, d3, ds3, p3, q3, rfl, rfl, rfl, h3, r3⟩ := trodAll_cons r2
  obtain ⟨rfl, rfl, rfl⟩ := trodAll_nil r3
  obtain rfl : args = #[v0, v1, v2, v3] := by cases args; simp_all
  obtain ⟨rfl, rfl⟩ := trodVars_none hV
  obtain ⟨a0, len0, cap0, rfl⟩ := okWide_slice Tryz.underlying22 (hval 0 22 v0 rfl rfl)
  have k0 := h0
  have lt0 : ∀ x ∈ p0, x.block < W.heap.size := by obtain ⟨m, hm⟩ := k0; exact DataW.trod_lt m _ _ _ hm
  have c0 : len0 ≤ cap0 := by
    obtain ⟨fuel, hf⟩ := h0
    exact incap_of Tryz.underlying22 hf
  obtain ⟨t0, w0⟩ : ∃ ts, InRow 1 encU Go.Proofs.YtgiiadjocfnhlabGreatDoor.u64 0 W a0 len0 ts := by
    obtain ⟨fuel, hf⟩ := h0
    exact inrow_of 1 encU Go.Proofs.YtgiiadjocfnhlabGreatDoor.u64 0 22 26 Tryz.underlying22 cellsU1 (by omega) lenU (fun n cs x => uid_of n cs x) hf
  obtain ⟨a1, len1, cap1, rfl⟩ := okWide_slice Tryz.underlying23 (hval 1 23 v1 rfl rfl)
  have k1 := h1
  have lt1 : ∀ x ∈ p1, x.block < W.heap.size := by obtain ⟨m, hm⟩ := k1; exact DataW.trod_lt m _ _ _ hm
  have c1 : len1 ≤ cap1 := by
    obtain ⟨fuel, hf⟩ := h1
    exact incap_of Tryz.underlying23 hf
  obtain ⟨t1, w1⟩ : ∃ ts, InRow 4 Ac10.cells Ac10.ok ac100 W a1 len1 ts := by
    obtain ⟨fuel, hf⟩ := h1
    exact inrow_of 4 Ac10.cells Ac10.ok ac100 23 50 Tryz.underlying23 cellsAc10 (by omega) lenAc10 (fun n cs x => ac10_of n cs x) hf
  obtain ⟨a2, rfl, rfl, rfl, w2⟩ := open_int Tryz.underlying3 (hval 2 3 v2 rfl rfl) h2
  obtain ⟨a3, rfl, rfl, rfl, w3⟩ := open_int Tryz.underlying26 (hval 3 26 v3 rfl rfl) h3
  clear hA0 hval0
  have hE := handle_of_laid hL
  refine (walk a0 len0 cap0 t0 a1 len1 cap1 t1 a2 a3 W hE w0 c0 w1 c1 w2 w3).mono fun e W' ⟨he, bel⟩ => ?_
  subst he
  exact ⟨_, rfl, _, _, _, [], _, [], hW', trodAll_mk1 (shut_bool Tryz.underlying4 _), (trodAll_cons_mk (Below.trod laidOut (by kernel_rfl) (of_decide_eq_true (by kernel_rfl)) k0 bel lt0) (trodAll_cons_mk (Below.trod laidOut (by kernel_rfl) (of_decide_eq_true (by kernel_rfl)) k1 bel lt1) (trodAll_cons_mk (shut_int Tryz.underlying3 w2) (trodAll_cons_mk (shut_int Tryz.underlying26 w3) trodAll_mk0)))), rfl, bel.frame _, fun h => by cases h⟩

theorem over : Rows.routeCalmRow.holds Tryz.pinned (OpenSpec.ofChange Rows.routeCalmSpec) :=
  OpenClaim.holds_of_wide 4 Tryz.f4 rfl rfl rfl rfl rfl rfl rfl ⟨rfl, rfl, rfl, rfl, rfl⟩ rfl rfl rfl rfl rfl (by kernel_rfl) Tryz.func4 (by kernel_rfl)
    (of_decide_eq_true (by kernel_rfl)) (by unfold Func.isWrapper; first | (rw [if_pos (by decide +kernel)]; kernel_rfl) | (rw [if_neg (by decide +kernel)]; exact ⟨rfl, rfl⟩))
    (fun os started H enc _ => lifted os started H enc)

theorem card : Rows.RouteCalmCardSaid :=
  Claim7.holds_tied_plain_at .later [] [.handle] true (true, "38ed07e560a91184882e99392f489255bb7191b244fb549ebb9b54e29bf314a8") true
    over (fun _ h => by cases h) (by kernel_rfl) (fun _ h => by cases h) routeCalm_row_tie rfl ⟨rfl, rfl⟩ (by kernel_rfl) rfl
    (fun f fn hf hfn => by
      obtain rfl : f = 4 := Option.some.inj ((show Tryz.prog.funcNamed "wigwag/wigwaglaw12.RouteCalm" = some 4 by kernel_rfl).symm.trans hf) |>.symm
      obtain rfl : fn = Tryz.f4 := (Option.some.inj (Tryz.func4.symm.trans hfn)).symm
      exact ⟨by kernel_rfl, fun j t ht => by
        rw [Tryz.params4] at ht
        have hall : ∀ t ∈ ([22, 23, 3, 26] : List TypeId), Tryz.prog.wantsStandIn t = false := by
          intro t ht
          simp only [List.mem_cons, List.not_mem_nil, or_false] at ht
          rcases ht with rfl | rfl | rfl | rfl <;> kernel_rfl
        exact hall t (by simpa using List.mem_of_getElem? (l := ([22, 23, 3, 26] : List TypeId)) (i := j) (by simpa using ht))⟩)
    (by kernel_rfl)

end Go.Proofs.YtgiiadjocfnhlabGreatDoor.routeCalm

namespace Go.Proofs.YtgiiadjocfnhlabGreatDoor
/-- Proved: for every list of places, every list of calls, every fix and every place: behind any 40 calls and so many rounds each way from any member ends at the owner, with no address twice, with the fingers of then and with those that are fixed behind it, which are those that should be; errors.errorType being laid as the program's text lays it (the card's tie, over the pruned copy). -/
theorem routeCalm_holds : Rows.RouteCalmCardSaid := routeCalm.card
#print axioms routeCalm_holds
end Go.Proofs.YtgiiadjocfnhlabGreatDoor
