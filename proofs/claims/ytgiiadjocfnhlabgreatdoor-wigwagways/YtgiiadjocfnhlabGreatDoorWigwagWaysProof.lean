/- Proved: for every list of places, every list of calls and every place: on a ring on which all is as it should be all ways to one place end at one member, the owner, and each member on such a way goes on as the way does; behind any 30 calls; errors.errorType being laid as the program's text lays it (the card's tie, over the pruned copy).
  The frame is the guide's own shell (proof-skeleton.mjs) at this function; the walk and all ahead of it are mine. -/
import Derived.Test.YtgiiadjocfnhlabGreatDoorRows
import Derived.Test.YtgiiadjocfnhlabGreatDoorJoinPrInts
import Derived.Test.YtgiiadjocfnhlabGreatDoorJoinPeSame
import Derived.Test.YtgiiadjocfnhlabGreatDoorRfM
import Derived.Test.YtgiiadjocfnhlabGreatDoorInCap
import Derived.Test.YtgiiadjocfnhlabGreatDoorJoinJoinRtMath
import Derived.Deep.CutBlock
import Derived.Deep.DeepCutAuto
import Derived.Deep.LoopGhost
import Derived.WalkKit
import Derived.WalkLawsBesides
import Derived.ProofKit
import Derived.OpenShut
import Derived.ChangeSame
import Derived.ChangeVars
import Derived.JoinedOf
import Derived.RowKit
import Derived.RowKitTokens
import Derived.LaidLaws
import Derived.LaidHandle
import Derived.Stop.Joined
import Derived.SevenTiedAt
import Derived.Test.YtgiiadjocfnhlabGreatDoorTie
import Derived.Test.YtgiiadjocfnhlabGreatDoorCards
import Derived.ShutString
import Derived.ChangeOld
import Derived.Below
namespace Go.Proofs.YtgiiadjocfnhlabGreatDoor.wigwagWays
open Go.ChangeShapes Go.WideShapes Go.ChangeAt Go.RowKit
open Go.ChangeMaps (open_string shut_string)
set_option linter.unusedVariables false

theorem own : ownKnob Tryz.prog.godebug = none := by kernel_rfl
theorem laidOut : laidOutB Tryz.prog = true := by kernel_rfl


theorem et : Tryz.prog.globalNamed "errors.errorType" = some 0 := by kernel_rfl
theorem rt : (Tryz.prog.cutTypes.find? (·.1 == "internal/reflectlite.rtype")).map (·.2) = some 160 := by kernel_rfl
theorem oneRow : ((List.range 232).filter fun t => Tryz.prog.rowNamed t [101, 114, 114, 111, 114]) = [44] := by kernel_rfl
theorem typesSize : Tryz.prog.types.size = 232 := by kernel_rfl
/-- What the tied variable gives a walk: its one cell. -/
theorem handle_of_laid {W : World} (h : laidMetH Tryz.prog Rows.wigwagWaysRow.laid W) : ErrType W := by
  have h' : laidMet Tryz.prog [] W ∧ handlesMet Tryz.prog Rows.wigwagWaysRow.laid W := h
  obtain ⟨name, u, ty, e1, e2, e3, e4, e5⟩ := h'.2 _ (List.mem_singleton.2 rfl)
  have en : name = [101, 114, 114, 111, 114] := (Option.some.inj e1).symm
  subst en
  obtain rfl := Option.some.inj (rt.symm.trans e2)
  have hm : ty ∈ (List.range 232).filter fun t => Tryz.prog.rowNamed t [101, 114, 114, 111, 114] := List.mem_filter.2 ⟨List.mem_range.2 (by rw [← typesSize]; exact e3), e4⟩
  rw [oneRow] at hm
  obtain rfl := List.mem_singleton.1 hm
  have hh : typeHandle Tryz.prog 44 = .pointer (some ⟨1, 44, none⟩) := by kernel_rfl
  rw [hh] at e5
  unfold ErrType
  simpa using World.var?_cell et e5 0

/-! ### STEP 1: the walk -/
set_option maxRecDepth 100000 in
set_option maxHeartbeats 20000000 in
theorem walk (a0 : Option Addr) (len0 cap0 : Nat) (t0 : List Int) (a1 : Option Addr) (len1 cap1 : Nat) (t1 : List Ac10) (a2 : Int) (w : World) (hE : ErrType w) (w0 : InRow 1 encU Go.Proofs.YtgiiadjocfnhlabGreatDoor.u64 0 w a0 len0 t0) (c0 : len0 ≤ cap0) (w1 : InRow 4 Ac10.cells Ac10.ok ac100 w a1 len1 t1) (c1 : len1 ≤ cap1) (w2 : (Lit.int .u64 a2).wf = true) :
    Calls Tryz.prog 8 #[.slice a0 len0 cap0, .slice a1 len1 cap1, .int .u64 a2] w fun e w' => e = .returned (.bool true) ∧ Below w.heap.size w w' := by
  have HIN : Hid (IdIn w a0 len0 t0 ∧ AcIn w a1 len1 t1 ∧ ErrType w ∧ len0 ≤ cap0) := ⟨w0, w1, hE, c0⟩
  have HX2 : Hid (Plc a2) := by show Plc a2; obtain ⟨z0, z1⟩ := bounds_u64 w2; unfold Plc; omega
  clear w0 w1 c0 c1 hE w2
  go_enter Tryz.func8, Tryz.ntmps8
  go_wp2_with fail
  refine (made_base (some ⟨w.heap.size, 0, none⟩) 4 _ (in_list (v := Value.int .u64) (T := 26) (arr := #[.int .u64 10, .int .u64 20, .int .u64 30, .int .u64 40]) (fun _ => rfl) ids4 rfl (heap_alloc_new w _) (by simp [ids4, u64]) (by decide))).mono ?_
  rintro e w1 ⟨rb, gpb, gkb, x0, x1, x2, x3, rfl, hsl, hrb, b1⟩
  have b01 : Below w.heap.size w w1 := (below_one _ _).trans (b1.mono (by simp))
  obtain ⟨⟨p0, p1, p2, rfl⟩, ⟨p3, p4, p5, rfl⟩, ⟨p6, p7, p8, rfl⟩, ⟨p9, p10, p11, rfl⟩⟩ := hsl
  obtain ⟨W1, hW1⟩ : ∃ W1, W1 = w1.alloc (.cells #[.slice p0 p1 p2, .slice p3 p4 p5, .slice p6 p7 p8, .slice p9 p10 p11] 34) := ⟨_, rfl⟩
  have H1 : Hid (RingAt W1 rb gpb gkb ringA ∧ Below w.heap.size w W1) := by rw [hW1]; exact ⟨hrb.below (below_one _ _), b01.trans ((below_one _ _).mono b01.size)⟩
  clear hrb b1 b01
  go_upto_region 2 with fail
  rw [← hW1]
  clear hW1
  go_wp2_with fail
  refine (of_r rb gpb gkb ringA _ H1.out.1 ringA_inv).mono ?_
  rintro e w2 ⟨C, g, b, c, d, rfl, hC, hm, hc1, hc2, hp, hd, b2⟩
  obtain rfl := cirA hC
  rw [lenA]
  have H2 : Hid (RingAt w2 rb gpb gkb ringA ∧ Below w.heap.size w w2) := ⟨H1.out.1.below b2, H1.out.2.trans (b2.mono H1.out.2.size)⟩
  clear hC hm hc1 hc2 hp hd b2 H1
  go_wp2_with fail
  refine (clen_r _ _ _ _ _).mono ?_
  rintro e w3 ⟨rfl, b3⟩
  have H3 : Hid (RingAt w3 rb gpb gkb ringA ∧ Below w.heap.size w w3) := ⟨H2.out.1.below b3, H2.out.2.trans (b3.mono H2.out.2.size)⟩
  clear b3 H2
  go_wp2_with fail
  refine (of_r rb gpb gkb ringA _ H3.out.1 ringA_inv).mono ?_
  rintro e w4 ⟨C, g, b, c, d, rfl, hC, hm, hc1, hc2, hp, hd, b4⟩
  obtain rfl := cirA hC
  rw [lenA] at hm hp ⊢
  have H4 : Hid (Below w.heap.size w w4 ∧ InIn w4 (some ⟨g, 0, none⟩) 4 [0, 1, 2, 3] ∧ IdIn w4 b 4 ([0, 1, 2, 3].map ringA.idOf)) := ⟨H3.out.2.trans (b4.mono H3.out.2.size), hm, hp⟩
  clear hC hm hc1 hc2 hp hd b4 H3
  go_wp2_with fail
  refine (cowner_r ringA [0, 1, 2, 3] g c d 4 2 b 25 _ H4.out.2.1 H4.out.2.2 (by omega) ow25 (by omega)).mono ?_
  rintro e w5 ⟨rfl, b5⟩
  have H5 : Hid (Below w.heap.size w w5) := H4.out.1.trans (b5.mono H4.out.1.size)
  clear b5 H4
  rw [show ([0, 1, 2, 3] : List Int).getD 2 0 = 2 from rfl]
  have HMd : Hid _ := made_r a0 len0 cap0 t0 a1 len1 cap1 t1 30 w5 (HIN.out.1.below (Nat.le_refl _) H5.out) HIN.out.2.2.2 (HIN.out.2.1.below (Nat.le_refl _) H5.out) (HIN.out.2.2.1.below HIN.out.2.2.1.lt H5.out) (by omega)
  go_wp2_with fail
  refine Calls.mono HMd.out ?_
  clear HMd
  rintro e w6 h6
  rcases h6 with ⟨x0, x1, x2, x3, rfl, hsl, b6⟩ | ⟨r, gp, gk, R, x0, x1, x2, x3, rfl, hsl, hrn, _⟩
  · obtain ⟨⟨q0, q1, q2, rfl⟩, ⟨q3, q4, q5, rfl⟩, ⟨q6, q7, q8, rfl⟩, ⟨q9, q10, q11, rfl⟩⟩ := hsl
    have B6 : Below w.heap.size w w6 := H5.out.trans (b6.mono H5.out.size)
    go_wp2
    go_ret
    exact ⟨rfl, B6.trans ((below_one _ _).mono B6.size)⟩
  · obtain ⟨⟨q0, q1, q2, rfl⟩, ⟨q3, q4, q5, rfl⟩, ⟨q6, q7, q8, rfl⟩, ⟨q9, q10, q11, rfl⟩⟩ := hsl
    obtain ⟨W7, hW7⟩ : ∃ W7, W7 = w6.alloc (.cells #[.slice q0 q1 q2, .slice q3 q4 q5, .slice q6 q7 q8, .slice q9 q10 q11] 34) := ⟨_, rfl⟩
    have H7 : Hid (Rn w W7 r gp gk R) := by
      have h := hrn.below (below_one w6 (.cells #[.slice q0 q1 q2, .slice q3 q4 q5, .slice q6 q7 q8, .slice q9 q10 q11] 34))
      have hs := H5.out.size
      have h1 := h.gp
      have h2 := h.gk
      rw [hW7]
      exact ⟨h.ring, h.inv, H5.out.trans (h.bel.mono hs), by omega, by omega⟩
    clear hrn
    go_upto_region 5 with fail
    rw [← hW7]
    clear hW7 H5
    have hll : R.live.length ≤ 32 := liveTo_len R 32
    obtain ⟨n, hn⟩ : ∃ n, n = R.live.length := ⟨_, rfl⟩
    rw [← hn] at hll
    have HN : Hid (n = R.live.length) := hn
    clear hn
    go_wp2
    go_loopg [13] (4 * n + 8) (fun kx s wr => ∃ j : Nat, s = .int .i64 j ∧ j ≤ 4 * n + 8 ∧ kx = 4 * n + 8 - j ∧ Hid (Rn w wr r gp gk (R.rounds j)))
    case atStart => exact ⟨0, rfl, Nat.zero_le _, rfl, (H7.out : Rn w W7 r gp gk (R.rounds 0))⟩
    case round =>
      obtain ⟨j, rfl, hj, rfl, HB⟩ := hrel
      have HLn : Hid ((R.rounds j).live.length = n) := by show (R.rounds j).live.length = n; rw [(alike_rounds R j).live]; exact HN.out.symm
      by_cases hjl : j < 4 * n + 8
      · have hjl' : (j : Int) < 4 * (n : Int) + 8 := by omega
        go_wp2_with fail
        refine (live_r r gp gk (R.rounds j) _ HB.out.ring).mono ?_
        rintro e w8 ⟨la, lc, rfl, _, _, b8⟩
        rw [HLn.out]
        have H8 : Hid (Rn w w8 r gp gk (R.rounds j)) := HB.out.below b8
        clear b8
        go_wp2_with (first
          | (go_at_call 32; refine (rounds_r n _ (by omega)).mono ?_; rintro e w' ⟨rfl, rfl⟩)
          | (go_at_call 31; refine (round_r r gp gk (R.rounds j) _ H8.out.ring).mono ?_; rintro e w9 ⟨rfl, h9, k9⟩))
        go_roundg (4 * n + 8 - (j + 1))
        case measure => omega
        case rel => exact ⟨j + 1, by go_num, by omega, rfl, (H8.out.step h9 H8.out.inv.round k9 : Rn w w9 r gp gk (R.rounds (j + 1)))⟩
      · obtain rfl : j = 4 * n + 8 := by omega
        have hjl' : ¬ ((4 * n + 8 : Nat) : Int) < 4 * (n : Int) + 8 := by omega
        have hrg := H7.out.inv.calm (m := 4 * n + 8) (by have := HN.out; omega)
        have HRG : Hid (Rgt 3 (R.rounds (4 * n + 8))) := hrg
        clear hrg
        generalize R.rounds (4 * n + 8) = R6 at HB HRG HLn
        obtain ⟨w8, hw8⟩ : ∃ w8, w8 = wr := ⟨_, rfl⟩
        rw [← hw8] at HB ⊢
        clear hw8
        go_wp2_with fail
        refine (live_r r gp gk R6 _ HB.out.ring).mono ?_
        rintro e w9 ⟨la, lc, rfl, _, _, b9⟩
        rw [HLn.out]
        have H9 : Hid (Rn w w9 r gp gk R6) := HB.out.below b9
        clear b9 HB H7 HN
        go_wp2_with fail
        refine (rounds_r n _ (by omega)).mono ?_
        rintro e w' ⟨rfl, hw'⟩
        subst w'
        go_wp2_with fail
        refine (fnew_r w w9 r gp gk R6 H9.out).mono ?_
        rintro e w10 ⟨f, gm, rfl, h10⟩
        have H10 : Hid (Rt w w10 r gp gk f gm R6 (fun _ => [])) := h10
        clear h10 H9
        go_wp2_with fail
        refine (fround_r w w10 r gp gk f gm R6 _ H10.out).mono ?_
        rintro e w11 ⟨rfl, h11⟩
        obtain ⟨G, hG⟩ : ∃ G, G = R6.roundG (fun _ => []) := ⟨_, rfl⟩
        rw [← hG] at h11
        have H11 : Hid (Rt w w11 r gp gk f gm R6 G) := h11
        clear h11 H10 hG
        go_wp2_with fail
        refine (of_r r gp gk R6 _ H11.out.rn.ring HRG.out.1).mono ?_
        rintro e w12 ⟨C, g, b, c, d, rfl, hC, hm, hc1, hc2, hp, hd, b12⟩
        rw [HLn.out] at hm hp ⊢
        have h4 : 4 ≤ n := by rw [← HLn.out]; exact live_four HRG.out.1
        have hcl : C.length = n := by rw [hC.len]; exact HLn.out
        obtain ⟨ko, hko, hkl⟩ := owner_rng (C.map R6.idOf) a2 (by simp; omega)
        rw [List.length_map, hcl] at hkl
        have H12 : Hid (Rt w w12 r gp gk f gm R6 G ∧ Cir R6 C ∧ InIn w12 (some ⟨g, 0, none⟩) n C ∧ IdIn w12 b n (C.map R6.idOf) ∧ ownerN (C.map R6.idOf) a2 = ko ∧ C.length = n) := ⟨H11.out.below b12, hC, hm, hp, hko, hcl⟩
        clear hC hm hc1 hc2 hp hd b12 hko hcl H11
        go_wp2_with fail
        refine (cowner_r R6 C g c d n ko b a2 _ H12.out.2.2.1 H12.out.2.2.2.1 h4 H12.out.2.2.2.2.1 hkl).mono ?_
        rintro e w13 ⟨rfl, b13⟩
        obtain ⟨o, ho⟩ : ∃ o, o = C.getD ko 0 := ⟨_, rfl⟩
        rw [← ho]
        have HO : Hid (R6.lives o = true ∧ ∀ y, R6.lives y = true → R6.nextTo G a2 y = y → y = o) := by
          refine ⟨by rw [ho]; exact H12.out.2.1.lv (by rw [H12.out.2.2.2.2.2]; exact hkl), fun y hy hs => ?_⟩
          obtain ⟨k, hk, h1, h2⟩ := stop_owner HRG.out H12.out.2.1 HX2.out hy hs
          rw [H12.out.2.2.2.2.1] at h1
          have : k = ko := by omega
          rw [← h2, this, ho]
        have H13 : Hid (Rt w w13 r gp gk f gm R6 G) := H12.out.1.below b13
        clear b13 H12 ho
        go_wp2_with fail
        refine (live_r r gp gk R6 _ H13.out.rn.ring).mono ?_
        rintro e w14 ⟨lb, ld, rfl, hlb, _, b14⟩
        rw [HLn.out] at hlb ⊢
        have H14 : Hid (Rt w w14 r gp gk f gm R6 G ∧ InIn w14 lb n R6.live) := ⟨H13.out.below b14, hlb⟩
        clear b14 hlb H13
        go_wp2
        go_loopg [73] n (fun kx s wr => ∃ i : Nat, s = .int .i64 i ∧ i ≤ n ∧ kx = n - i ∧ Hid (Below w14.heap.size w14 wr))
        case atStart => exact ⟨0, rfl, Nat.zero_le _, rfl, (Below.refl _ _ : Below w14.heap.size w14 w14)⟩
        case round =>
          obtain ⟨i, rfl, hi, rfl, HB⟩ := hrel
          by_cases hlt : i < n
          · have hiI : (0 : Int) ≤ (i : Int) ∧ (i : Int) < (n : Int) := by omega
            obtain ⟨mb, mo, hmb, hml, _, hmc⟩ := (H14.out.2.below (Nat.le_refl _) HB.out).one (v := Value.int .i64) (fun _ => rfl) (i := i) hlt
            subst hmb
            have hmem : R6.live.getD i 0 ∈ R6.live := by rw [List.getD_eq_getElem?_getD, List.getElem?_eq_getElem (by have := HLn.out; omega)]; simp
            obtain ⟨y, hy⟩ : ∃ y, y = R6.live.getD i 0 := ⟨_, rfl⟩
            rw [← hy] at hmc hmem
            have HY : Hid (R6.lives y = true) := ((mem_live R6 _).1 hmem).2.2
            clear hmem hy
            go_wp2_with fail
            refine (path_calm r gp gk f gm R6 G y a2 _ (H14.out.1.rn.ring.below HB.out) (H14.out.1.fg.below HB.out) HRG.out HX2.out HY.out).mono ?_
            rintro e w15 ⟨k, pa, pc, hk, hs, rfl, hin, b15⟩
            rw [HLn.out] at hk
            obtain ⟨m, hme⟩ : ∃ m, m = k + 1 := ⟨_, rfl⟩
            rw [← hme] at hin ⊢
            have HW : Hid (R6.stops G a2 y k ∧ InIn w15 pa m (R6.way G a2 y m) ∧ m = k + 1) := ⟨hs, hin, hme⟩
            have hm0 : 1 ≤ m := by omega
            have hm33 : m ≤ 33 := by omega
            have hend : R6.hopTo G a2 y k = o := HO.out.2 _ (hop_lives HRG.out.1 HX2.out HY.out k) hs.2
            obtain ⟨qb, qo, hqb, hql, _, hqc⟩ := hin.one (v := Value.int .i64) (fun _ => rfl) (i := k) (by omega)
            subst hqb
            rw [way_getD R6 G a2 y (by omega), hend] at hqc
            have H15 : Hid (Below w14.heap.size w14 w15) := HB.out.trans (b15.mono HB.out.size)
            have hsub : IntKind.i64.wrap ((m : Int) - 1) = (k : Int) := by simp [IntKind.wrap, IntKind.bits, IntKind.signed]; omega
            have hm1 : ¬ ((m : Int) < 1) := by omega
            have d1 : decide ((m : Int) < 1) = false := decide_eq_false hm1
            have noo : (o != o) = false := by simp
            have hkI : (0 : Int) ≤ (k : Int) ∧ (k : Int) < (m : Int) := by omega
            clear b15 hin hs hme hend hk hmc hml
            go_wp2
            clear hqc hql hsub d1 noo hkI
            go_loopg [103] m (fun kx s wr => ∃ u : Nat, s = .int .i64 u ∧ u ≤ m ∧ kx = m - u ∧ Hid (Below w15.heap.size w15 wr))
            case atStart => exact ⟨0, rfl, Nat.zero_le _, rfl, (Below.refl _ _ : Below w15.heap.size w15 w15)⟩
            case round =>
              obtain ⟨u, rfl, hu, rfl, HB2⟩ := hrel
              have B2 : Hid (Below w14.heap.size w14 wr) := H15.out.trans (HB2.out.mono H15.out.size)
              by_cases hul : u < m
              · have huI : (0 : Int) ≤ (u : Int) ∧ (u : Int) < (m : Int) := by omega
                obtain ⟨tb, tq, htb, htl, _, htc⟩ := (HW.out.2.1.below (Nat.le_refl _) HB2.out).one (v := Value.int .i64) (fun _ => rfl) (i := u) hul
                simp at htb
                obtain ⟨rfl, rfl⟩ := htb
                rw [way_getD R6 G a2 y hul] at htc
                obtain ⟨z, hz⟩ : ∃ z, z = R6.hopTo G a2 y u := ⟨_, rfl⟩
                rw [← hz] at htc
                have HZ : Hid (R6.lives z = true ∧ R6.stops G a2 z (k - u)) := by
                  refine ⟨by rw [hz]; exact hop_lives HRG.out.1 HX2.out HY.out u, ?_⟩
                  rw [hz]; exact stops_rest HW.out.1 (by have := HW.out.2.2; omega)
                clear hz
                go_wp2_with fail
                refine (path_calm r gp gk f gm R6 G z a2 _ (H14.out.1.rn.ring.below B2.out) (H14.out.1.fg.below B2.out) HRG.out HX2.out HZ.out.1).mono ?_
                rintro e w16 ⟨k2, ra, rc, _, hs2, rfl, _, b16⟩
                obtain rfl : k2 = k - u := stops_uniq hs2 HZ.out.2
                obtain ⟨j2, hj2⟩ : ∃ j2, j2 = k - u + 1 := ⟨_, rfl⟩
                rw [← hj2]
                have hj3 : j2 = m - u := by have := HW.out.2.2; omega
                have hsub : IntKind.i64.wrap ((m : Int) - (u : Int)) = (j2 : Int) := by simp [IntKind.wrap, IntKind.bits, IntKind.signed]; omega
                have njj : ((j2 : Int) != (j2 : Int)) = false := by simp
                have H16 : Hid (Below w15.heap.size w15 w16) := HB2.out.trans (b16.mono HB2.out.size)
                clear hj2 hj3 hs2 b16 htc htl
                go_wp2
                go_roundg (m - (u + 1))
                case measure => omega
                case rel => exact ⟨u + 1, by go_num, by omega, rfl, H16⟩
              · obtain rfl : u = m := by omega
                go_wp2
                go_roundg (n - (i + 1))
                case measure => omega
                case rel => exact ⟨i + 1, by go_num, by omega, rfl, B2⟩
          · go_wp2_with fail
            refine (is_r r gp gk R6 _ (H14.out.1.rn.ring.below HB.out) HRG.out.1).mono ?_
            rintro e w15 ⟨C2, hC2, rfl, b15⟩
            rw [HRG.out.is hC2 _ (Nat.le_refl _)]
            have H15 : Hid (Below w14.heap.size w14 w15) := HB.out.trans (b15.mono HB.out.size)
            clear b15 hC2
            go_wp2_with fail
            refine (lives_r r gp gk R6 o _ (H14.out.1.rn.ring.below H15.out)).mono ?_
            rintro e w16 ⟨rfl, b16⟩
            rw [HO.out.1]
            have hbb := (H14.out.1.below H15.out).rn.bel
            go_wp2
            go_ret
            exact ⟨rfl, hbb.trans (b16.mono hbb.size)⟩

/-! ### The row's step -/
set_option maxRecDepth 100000 in
theorem lifted (os : Os) (started : os.Started) (H : Type) (enc : TypeId × Value → H) :
    ReturnsInHanded {} Tryz.checked os 8 .any (fun w args => (Rows.wigwagWaysSpec.pre enc Tryz.prog Tryz.f8 [] false w args ∧ laidMetH Tryz.prog Rows.wigwagWaysRow.laid w) ∧ sizedMet enc Tryz.prog Tryz.f8 (OpenSpec.ofChange Rows.wigwagWaysSpec) false w args) (Rows.wigwagWaysSpec.post enc Tryz.prog Tryz.f8 false true false false) := by
  refine returnsInHanded_of_change_and (C := Tryz.checked) (X := fun w _ => laidMetH Tryz.prog Rows.wigwagWaysRow.laid w) (fun _ _ _ hh h => h.of_heap hh) own started (by kernel_rfl) Tryz.func8
    (ChangeSpec.witness_at (enc := enc) (C := Tryz.checked) (os := os) (X := fun w _ => laidMetH Tryz.prog Rows.wigwagWaysRow.laid w) false ({ World.holding Tryz.prog os ⟨#[], #[], []⟩ with heap := (World.holding Tryz.prog os ⟨#[], #[], []⟩).heap.modify 0 fun | .cells _ t frozen => .cells #[.iface 160 (.agg #[.pointer (some ⟨1, 44, none⟩)])] t frozen | o => o }) #[.slice none 0 0, .slice none 0 0, .int .u64 0] 8 rfl (by kernel_rfl) (by kernel_rfl) (by kernel_rfl) (by kernel_rfl) (by kernel_rfl) (laidMetH_of_parts (laidMet_nil _ _) (by kernel_rfl))) ?_
  intro W base args ds gs before hval0 hW _ _ hL _
  have hval : ∀ (j : Nat) t v, Tryz.f8.params[j]? = some t → args[j]? = some v → Value.okWide Tryz.prog W .any base t v := hval0
  have hW' := hW
  obtain ⟨p, q, hA0, hV, rfl, hfz, hnd⟩ := hW
  have hA : DataW.TrodAll enc Tryz.prog W 0 (fun _ => true) true Tryz.f8.params.toList args.toList ds p := hA0
  rw [Tryz.params8] at hA hval
  obtain ⟨v0, vs0, d0, ds0, p0, q0, hargs, rfl, rfl, h0, r0⟩ := trodAll_cons hA
  obtain ⟨v1, vs1, d1, ds1, p1, q1, rfl, rfl, rfl, h1, r1⟩ := trodAll_cons r0
  obtain ⟨v2, vs2, d2, ds2, p2, q2, rfl, rfl, rfl, h2, r2⟩ := trodAll_cons r1
  obtain ⟨rfl, rfl, rfl⟩ := trodAll_nil r2
  obtain rfl : args = #[v0, v1, v2] := by cases args; simp_all
  obtain ⟨rfl, rfl⟩ := trodVars_none hV
  obtain ⟨a0, len0, cap0, rfl⟩ := okWide_slice Tryz.underlying22 (hval 0 22 v0 rfl rfl)
  have k0 := h0
  have lt0 : ∀ x ∈ p0, x.block < W.heap.size := by obtain ⟨m, hm⟩ := k0; exact DataW.trod_lt m _ _ _ hm
  have c0 : len0 ≤ cap0 := by
    obtain ⟨fuel, hf⟩ := h0
    exact incap_of Tryz.underlying22 hf
  obtain ⟨t0, w0⟩ : ∃ ts, InRow 1 encU Go.Proofs.YtgiiadjocfnhlabGreatDoor.u64 0 W a0 len0 ts := by
    obtain ⟨fuel, hf⟩ := h0
    exact inrow_of 1 encU Go.Proofs.YtgiiadjocfnhlabGreatDoor.u64 0 22 26 Tryz.underlying22 cellsU1 (by omega) lenU (fun n cs x => uid_of n cs x) hf
  obtain ⟨a1, len1, cap1, rfl⟩ := okWide_slice Tryz.underlying23 (hval 1 23 v1 rfl rfl)
  have k1 := h1
  have lt1 : ∀ x ∈ p1, x.block < W.heap.size := by obtain ⟨m, hm⟩ := k1; exact DataW.trod_lt m _ _ _ hm
  have c1 : len1 ≤ cap1 := by
    obtain ⟨fuel, hf⟩ := h1
    exact incap_of Tryz.underlying23 hf
  obtain ⟨t1, w1⟩ : ∃ ts, InRow 4 Ac10.cells Ac10.ok ac100 W a1 len1 ts := by
    obtain ⟨fuel, hf⟩ := h1
    exact inrow_of 4 Ac10.cells Ac10.ok ac100 23 50 Tryz.underlying23 cellsAc10 (by omega) lenAc10 (fun n cs x => ac10_of n cs x) hf
  obtain ⟨a2, rfl, rfl, rfl, w2⟩ := open_int Tryz.underlying26 (hval 2 26 v2 rfl rfl) h2
  clear hA0 hval0
  have hE := handle_of_laid hL
  refine (walk a0 len0 cap0 t0 a1 len1 cap1 t1 a2 W hE w0 c0 w1 c1 w2).mono fun e W' ⟨he, bel⟩ => ?_
  subst he
  exact ⟨_, rfl, _, _, _, [], _, [], hW', trodAll_mk1 (shut_bool Tryz.underlying4 _), (trodAll_cons_mk (Below.trod laidOut (by kernel_rfl) (of_decide_eq_true (by kernel_rfl)) k0 bel lt0) (trodAll_cons_mk (Below.trod laidOut (by kernel_rfl) (of_decide_eq_true (by kernel_rfl)) k1 bel lt1) (trodAll_cons_mk (shut_int Tryz.underlying26 w2) trodAll_mk0))), rfl, bel.frame _, fun h => by cases h⟩

theorem over : Rows.wigwagWaysRow.holds Tryz.pinned (OpenSpec.ofChange Rows.wigwagWaysSpec) :=
  OpenClaim.holds_of_wide 8 Tryz.f8 rfl rfl rfl rfl rfl rfl rfl ⟨rfl, rfl, rfl, rfl, rfl⟩ rfl rfl rfl rfl rfl (by kernel_rfl) Tryz.func8 (by kernel_rfl)
    (of_decide_eq_true (by kernel_rfl)) (by unfold Func.isWrapper; first | (rw [if_pos (by decide +kernel)]; kernel_rfl) | (rw [if_neg (by decide +kernel)]; exact ⟨rfl, rfl⟩))
    (fun os started H enc _ => lifted os started H enc)

theorem card : Rows.WigwagWaysCardSaid :=
  Claim7.holds_tied_plain_at .later [] [.handle] true (true, "38ed07e560a91184882e99392f489255bb7191b244fb549ebb9b54e29bf314a8") true
    over (fun _ h => by cases h) (by kernel_rfl) (fun _ h => by cases h) wigwagWays_row_tie rfl ⟨rfl, rfl⟩ (by kernel_rfl) rfl
    (fun f fn hf hfn => by
      obtain rfl : f = 8 := Option.some.inj ((show Tryz.prog.funcNamed "wigwag/wigwagtop.WigwagWays" = some 8 by kernel_rfl).symm.trans hf) |>.symm
      obtain rfl : fn = Tryz.f8 := (Option.some.inj (Tryz.func8.symm.trans hfn)).symm
      exact ⟨by kernel_rfl, fun j t ht => by
        rw [Tryz.params8] at ht
        have hall : ∀ t ∈ ([22, 23, 26] : List TypeId), Tryz.prog.wantsStandIn t = false := by
          intro t ht
          simp only [List.mem_cons, List.not_mem_nil, or_false] at ht
          rcases ht with rfl | rfl | rfl <;> kernel_rfl
        exact hall t (by simpa using List.mem_of_getElem? (l := ([22, 23, 26] : List TypeId)) (i := j) (by simpa using ht))⟩)
    (by kernel_rfl)

end Go.Proofs.YtgiiadjocfnhlabGreatDoor.wigwagWays

namespace Go.Proofs.YtgiiadjocfnhlabGreatDoor
/-- Proved: for every list of places, every list of calls and every place: on a ring on which all is as it should be all ways to one place end at one member, the owner, and each member on such a way goes on as the way does; behind any 30 calls; errors.errorType being laid as the program's text lays it (the card's tie, over the pruned copy). -/
theorem wigwagWays_holds : Rows.WigwagWaysCardSaid := wigwagWays.card
#print axioms wigwagWays_holds
end Go.Proofs.YtgiiadjocfnhlabGreatDoor
