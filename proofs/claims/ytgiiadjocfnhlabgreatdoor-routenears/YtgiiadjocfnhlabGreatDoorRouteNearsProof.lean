/- Proved: for every list of places, every list of calls, every address and every place: on a ring on which all is as it should be each step of a way comes nearer to the place, but the last one, and a way is no longer than there are members; behind any 30 calls; errors.errorType being laid as the program's text lays it (the card's tie, over the pruned copy).
  The frame is the guide's own shell (proof-skeleton.mjs) at this function; the walk and all ahead of it are mine. -/
import Derived.Test.YtgiiadjocfnhlabGreatDoorRows
import Derived.Test.YtgiiadjocfnhlabGreatDoorJoinPrInts
import Derived.Test.YtgiiadjocfnhlabGreatDoorJoinPeSame
import Derived.Test.YtgiiadjocfnhlabGreatDoorRfM
import Derived.Test.YtgiiadjocfnhlabGreatDoorInCap
import Derived.Test.YtgiiadjocfnhlabGreatDoorJoinRtMath
import Derived.Deep.CutBlock
import Derived.Deep.DeepCutAuto
import Derived.Deep.LoopGhost
import Derived.WalkKit
import Derived.WalkLawsBesides
import Derived.ProofKit
import Derived.OpenShut
import Derived.ChangeSame
import Derived.ChangeVars
import Derived.JoinedOf
import Derived.RowKit
import Derived.RowKitTokens
import Derived.LaidLaws
import Derived.LaidHandle
import Derived.Stop.Joined
import Derived.SevenTiedAt
import Derived.Test.YtgiiadjocfnhlabGreatDoorTie
import Derived.Test.YtgiiadjocfnhlabGreatDoorCards
import Derived.ShutString
import Derived.ChangeOld
import Derived.Below
namespace Go.Proofs.YtgiiadjocfnhlabGreatDoor.routeNears
open Go.ChangeShapes Go.WideShapes Go.ChangeAt Go.RowKit
open Go.ChangeMaps (open_string shut_string)
set_option linter.unusedVariables false

theorem own : ownKnob Tryz.prog.godebug = none := by kernel_rfl
theorem laidOut : laidOutB Tryz.prog = true := by kernel_rfl


theorem et : Tryz.prog.globalNamed "errors.errorType" = some 0 := by kernel_rfl
theorem rt : (Tryz.prog.cutTypes.find? (·.1 == "internal/reflectlite.rtype")).map (·.2) = some 160 := by kernel_rfl
theorem oneRow : ((List.range 232).filter fun t => Tryz.prog.rowNamed t [101, 114, 114, 111, 114]) = [44] := by kernel_rfl
theorem typesSize : Tryz.prog.types.size = 232 := by kernel_rfl
/-- What the tied variable gives a walk: its one cell. -/
theorem handle_of_laid {W : World} (h : laidMetH Tryz.prog Rows.routeNearsRow.laid W) : ErrType W := by
  have h' : laidMet Tryz.prog [] W ∧ handlesMet Tryz.prog Rows.routeNearsRow.laid W := h
  obtain ⟨name, u, ty, e1, e2, e3, e4, e5⟩ := h'.2 _ (List.mem_singleton.2 rfl)
  have en : name = [101, 114, 114, 111, 114] := (Option.some.inj e1).symm
  subst en
  obtain rfl := Option.some.inj (rt.symm.trans e2)
  have hm : ty ∈ (List.range 232).filter fun t => Tryz.prog.rowNamed t [101, 114, 114, 111, 114] := List.mem_filter.2 ⟨List.mem_range.2 (by rw [← typesSize]; exact e3), e4⟩
  rw [oneRow] at hm
  obtain rfl := List.mem_singleton.1 hm
  have hh : typeHandle Tryz.prog 44 = .pointer (some ⟨1, 44, none⟩) := by kernel_rfl
  rw [hh] at e5
  unfold ErrType
  simpa using World.var?_cell et e5 0

/-! ### STEP 1: the walk -/
set_option maxRecDepth 100000 in
set_option maxHeartbeats 2000000 in
theorem walk (a0 : Option Addr) (len0 cap0 : Nat) (t0 : List Int) (a1 : Option Addr) (len1 cap1 : Nat) (t1 : List Ac10) (a2 : Int) (a3 : Int) (w : World) (hE : ErrType w) (w0 : InRow 1 encU Go.Proofs.YtgiiadjocfnhlabGreatDoor.u64 0 w a0 len0 t0) (c0 : len0 ≤ cap0) (w1 : InRow 4 Ac10.cells Ac10.ok ac100 w a1 len1 t1) (c1 : len1 ≤ cap1) (w2 : (Lit.int .i64 a2).wf = true) (w3 : (Lit.int .u64 a3).wf = true) :
    Calls Tryz.prog 5 #[.slice a0 len0 cap0, .slice a1 len1 cap1, .int .i64 a2, .int .u64 a3] w fun e w' => e = .returned (.bool true) ∧ Below w.heap.size w w' := by
  have HMd : Hid _ := made_r a0 len0 cap0 t0 a1 len1 cap1 t1 30 w w0 c0 w1 hE (by omega)
  have HX3 : Hid (Plc a3) := by show Plc a3; obtain ⟨z0, z1⟩ := bounds_u64 w3; unfold Plc; omega
  clear w0 w1 c0 c1 hE w2 w3
  go_enter Tryz.func5, Tryz.ntmps5
  go_wp2_with fail
  refine Calls.mono HMd.out ?_
  clear HMd
  rintro e w3 h3
  rcases h3 with ⟨x0, x1, x2, x3, rfl, hsl, b3⟩ | ⟨r, gp, gk, R, x0, x1, x2, x3, rfl, hsl, hrn, _⟩
  · obtain ⟨⟨p0, p1, p2, rfl⟩, ⟨p3, p4, p5, rfl⟩, ⟨p6, p7, p8, rfl⟩, ⟨p9, p10, p11, rfl⟩⟩ := hsl
    obtain ⟨W4, hW4⟩ : ∃ W4, W4 = w3.alloc (.cells #[.slice p0 p1 p2, .slice p3 p4 p5, .slice p6 p7 p8, .slice p9 p10 p11] 34) := ⟨_, rfl⟩
    have B4 : Hid (Below w.heap.size w W4) := by rw [hW4]; exact b3.trans ((below_one _ _).mono b3.size)
    clear b3
    go_upto_region 2 with fail
    rw [← hW4]
    clear hW4
    go_wp2_with fail
    refine (awake12_any _).mono ?_
    rintro e w5 ⟨rfl, b5⟩
    go_wp2
    go_ret
    exact ⟨rfl, B4.out.trans (b5.mono B4.out.size)⟩
  · obtain ⟨⟨p0, p1, p2, rfl⟩, ⟨p3, p4, p5, rfl⟩, ⟨p6, p7, p8, rfl⟩, ⟨p9, p10, p11, rfl⟩⟩ := hsl
    obtain ⟨W4, hW4⟩ : ∃ W4, W4 = w3.alloc (.cells #[.slice p0 p1 p2, .slice p3 p4 p5, .slice p6 p7 p8, .slice p9 p10 p11] 34) := ⟨_, rfl⟩
    have H4 : Hid (Rn w W4 r gp gk R) := by rw [hW4]; exact hrn.below (below_one _ _)
    clear hrn
    go_upto_region 2 with fail
    rw [← hW4]
    clear hW4
    have hll : R.live.length ≤ 32 := liveTo_len R 32
    obtain ⟨n, hn⟩ : ∃ n, n = R.live.length := ⟨_, rfl⟩
    rw [← hn] at hll
    have HN : Hid (n = R.live.length) := hn
    clear hn
    go_wp2
    go_loopg [12] (4 * n + 8) (fun kx s wr => ∃ j : Nat, s = .int .i64 j ∧ j ≤ 4 * n + 8 ∧ kx = 4 * n + 8 - j ∧ Hid (Rn w wr r gp gk (R.rounds j)))
    case atStart => exact ⟨0, rfl, Nat.zero_le _, rfl, (H4.out : Rn w W4 r gp gk (R.rounds 0))⟩
    case round =>
      obtain ⟨j, rfl, hj, rfl, HB⟩ := hrel
      have HLn : Hid ((R.rounds j).live.length = n) := by show (R.rounds j).live.length = n; rw [(alike_rounds R j).live]; exact HN.out.symm
      by_cases hjl : j < 4 * n + 8
      · have hjl' : (j : Int) < 4 * (n : Int) + 8 := by omega
        go_wp2_with fail
        refine (live_r r gp gk (R.rounds j) _ HB.out.ring).mono ?_
        rintro e w5 ⟨la, lc, rfl, _, _, b5⟩
        rw [HLn.out]
        have H5 : Hid (Rn w w5 r gp gk (R.rounds j)) := HB.out.below b5
        clear b5
        go_wp2_with (first
          | (go_at_call 32; refine (rounds_r n _ (by omega)).mono ?_; rintro e w' ⟨rfl, rfl⟩)
          | (go_at_call 31; refine (round_r r gp gk (R.rounds j) _ H5.out.ring).mono ?_; rintro e w6 ⟨rfl, h6, k6⟩))
        go_roundg (4 * n + 8 - (j + 1))
        case measure => omega
        case rel => exact ⟨j + 1, by go_num, by omega, rfl, (H5.out.step h6 H5.out.inv.round k6 : Rn w w6 r gp gk (R.rounds (j + 1)))⟩
      · obtain rfl : j = 4 * n + 8 := by omega
        have hjl' : ¬ ((4 * n + 8 : Nat) : Int) < 4 * (n : Int) + 8 := by omega
        have hrg := H4.out.inv.calm (m := 4 * n + 8) (by have := HN.out; omega)
        have HRG : Hid (Rgt 3 (R.rounds (4 * n + 8))) := hrg
        clear hrg
        generalize R.rounds (4 * n + 8) = R6 at HB HRG HLn
        obtain ⟨w6, hw6⟩ : ∃ w6, w6 = wr := ⟨_, rfl⟩
        rw [← hw6] at HB ⊢
        clear hw6
        go_wp2_with fail
        refine (live_r r gp gk R6 _ HB.out.ring).mono ?_
        rintro e w7 ⟨la, lc, rfl, _, _, b7⟩
        rw [HLn.out]
        have H7 : Hid (Rn w w7 r gp gk R6) := HB.out.below b7
        clear b7 HB H4 HN
        go_wp2_with fail
        refine (rounds_r n _ (by omega)).mono ?_
        rintro e w' ⟨rfl, hw'⟩
        subst w'
        go_wp2_with fail
        refine (fnew_r w w7 r gp gk R6 H7.out).mono ?_
        rintro e w8 ⟨f, gm, rfl, h8⟩
        have H8 : Hid (Rt w w8 r gp gk f gm R6 (fun _ => [])) := h8
        clear h8 H7
        go_wp2_with fail
        refine (fround_r w w8 r gp gk f gm R6 _ H8.out).mono ?_
        rintro e w9 ⟨rfl, h9⟩
        obtain ⟨G, hG⟩ : ∃ G, G = R6.roundG (fun _ => []) := ⟨_, rfl⟩
        rw [← hG] at h9
        have H9 : Hid (Rt w w9 r gp gk f gm R6 G) := h9
        clear h9 H8 hG
        cases hlv : R6.lives a2
        · have HKN : Hid (R6.kn a2 = none ∧ R6.lives a2 = false) := by
            refine ⟨?_, hlv⟩
            unfold Rg.lives at hlv
            cases hq : R6.kn a2 with
            | none => rfl
            | some y => rw [hq] at hlv; simp at hlv
          clear hlv
          go_wp2_with fail
          refine (path_none r gp gk f gm R6 G a2 a3 _ H9.out.rn.ring H9.out.fg HKN.out.1).mono ?_
          rintro e w10 ⟨rfl, b10⟩
          have H10 : Hid (Rt w w10 r gp gk f gm R6 G) := H9.out.below b10
          clear b10
          go_wp2_with fail
          refine (lives_r r gp gk R6 a2 _ H10.out.rn.ring).mono ?_
          rintro e w11 ⟨rfl, b11⟩
          rw [HKN.out.2]
          have H11 : Hid (Below w.heap.size w w11) := (H10.out.below b11).rn.bel
          clear b11
          go_wp2_with (go_at_call 10; refine (awake12_any _).mono ?_; rintro e w12 ⟨rfl, b12⟩)
          go_ret
          exact ⟨rfl, H11.out.trans (b12.mono H11.out.size)⟩
        · have HLV : Hid (R6.lives a2 = true) := hlv
          clear hlv
          go_wp2_with fail
          refine (path_calm r gp gk f gm R6 G a2 a3 _ H9.out.rn.ring H9.out.fg HRG.out HX3.out HLV.out).mono ?_
          rintro e w10 ⟨k, pa, pc, hk, hs, rfl, hin, b10⟩
          rw [HLn.out] at hk
          obtain ⟨m, hm⟩ : ∃ m, m = k + 1 := ⟨_, rfl⟩
          rw [← hm] at hin ⊢
          have H10 : Hid (Rt w w10 r gp gk f gm R6 G ∧ InIn w10 pa m (R6.way G a3 a2 m) ∧ R6.stops G a3 a2 k ∧ m = k + 1) := ⟨H9.out.below b10, hin, hs, hm⟩
          have hm0 : 1 ≤ m := by omega
          have hmn : m ≤ n := by omega
          clear b10 hin hs hm hk
          go_wp2_with fail
          refine (lives_r r gp gk R6 a2 _ H10.out.1.rn.ring).mono ?_
          rintro e w11 ⟨rfl, b11⟩
          rw [HLV.out]
          have H11 : Hid (Below w10.heap.size w10 w11) := b11
          clear b11
          have hm1 : ¬ ((m : Int) < 1) := by omega
          have hmnI : ¬ ((n : Int) < (m : Int)) := by omega
          have hmnN : ¬ (n < m) := by omega
          have d1 : decide ((m : Int) < 1) = false := decide_eq_false hm1
          have d2 : decide ((n : Int) < (m : Int)) = false := decide_eq_false hmnI
          have d3 : decide (n < m) = false := decide_eq_false hmnN
          go_wp2_with fail
          refine (live_r r gp gk R6 _ (H10.out.1.rn.ring.below H11.out)).mono ?_
          rintro e w12 ⟨lb, ld, rfl, _, _, b12⟩
          rw [HLn.out]
          have H12 : Hid (Below w10.heap.size w10 w12) := H11.out.trans (b12.mono H11.out.size)
          clear b12 H11
          obtain ⟨qb, qo, hqb, hql, _, hqc⟩ := (H10.out.2.1.below (Nat.le_refl _) H12.out).one (v := Value.int .i64) (fun _ => rfl) (i := 0) (by omega)
          subst hqb
          rw [way_getD R6 G a3 a2 (by omega), Nat.add_zero] at hqc
          have hqc' : w12.cell? ⟨qb, qo, none⟩ = some (.int .i64 a2) := hqc
          have n22 : (a2 != a2) = false := by simp
          clear hqc
          go_wp2
          clear hqc' hql d1 d2 d3
          go_loopg [16] m (fun kx s wr => ∃ i : Nat, s = .int .i64 ((i : Int) + 1) ∧ i ≤ m ∧ kx = m - i ∧ Hid (Below w10.heap.size w10 wr))
          case atStart => exact ⟨0, by simp, Nat.zero_le _, rfl, H12⟩
          case round =>
            obtain ⟨i, rfl, hi, rfl, HB⟩ := hrel
            by_cases hlt : i + 2 < m
            · have hlI : (i : Int) + 1 + 1 < (m : Int) := by omega
              have hw1 : IntKind.i64.wrap ((i : Int) + 1 - 1) = (i : Int) := by simp [IntKind.wrap, IntKind.bits, IntKind.signed]; omega
              obtain ⟨lb1, lo1, e1, l1, _, u1⟩ := (H10.out.2.1.below (Nat.le_refl _) HB.out).one (v := Value.int .i64) (fun _ => rfl) (i := i) (by omega)
              obtain ⟨lb2, lo2, e2, _, _, u2⟩ := (H10.out.2.1.below (Nat.le_refl _) HB.out).one (v := Value.int .i64) (fun _ => rfl) (i := i + 1) (by omega)
              rw [way_getD R6 G a3 a2 (by omega)] at u1 u2
              simp at e1 e2
              obtain ⟨rfl, rfl⟩ := e1
              obtain ⟨rfl, rfl⟩ := e2
              have hnr := hop_near (G := G) H9.out.rn.inv HX3.out HRG.out.2.1 HLV.out H10.out.2.2.1.1 (i := i) (by have := H10.out.2.2.2; omega)
              obtain ⟨y, hy⟩ : ∃ y, y = R6.hopTo G a3 a2 i := ⟨_, rfl⟩
              obtain ⟨z, hz⟩ : ∃ z, z = R6.hopTo G a3 a2 (i + 1) := ⟨_, rfl⟩
              rw [← hy] at u1 hnr
              rw [← hz] at u2 hnr
              obtain ⟨iy, hiy⟩ : ∃ o, o = R6.idOf y := ⟨_, rfl⟩
              obtain ⟨iz, hiz⟩ : ∃ o, o = R6.idOf z := ⟨_, rfl⟩
              rw [← hiy, ← hiz] at hnr
              obtain ⟨dy, hdy⟩ : ∃ o, o = dist iy a3 := ⟨_, rfl⟩
              obtain ⟨dz, hdz⟩ : ∃ o, o = dist iz a3 := ⟨_, rfl⟩
              rw [← hdy, ← hdz] at hnr
              have HD : Hid (R6.idOf y = iy ∧ R6.idOf z = iz ∧ dist iy a3 = dy ∧ dist iz a3 = dz) := ⟨hiy.symm, hiz.symm, hdy.symm, hdz.symm⟩
              have hle : ¬ dy ≤ dz := by omega
              clear hy hz hiy hiz hdy hdz hnr
              go_upto_region 18 with fail
              obtain ⟨ι, F, _, hF0, hFb, hFc⟩ := grown_fam wr
              have f1 : ∀ i', (F i').cell? ⟨qb, qo + i, none⟩ = _ := fun i' => cell_grown u1 (hFb i')
              have f2 : ∀ i', (F i').cell? ⟨qb, qo + (i + 1), none⟩ = _ := fun i' => cell_grown u2 (hFb i')
              have HF : Hid ((∃ i', { wr with drawn := wr.drawn + 1 } = F i') ∧ (∀ i', Below wr.heap.size wr (F i')) ∧ (∀ i' W, Below wr.heap.size (F i') W → ∃ j, W = F j)) := ⟨hF0, hFb, hFc⟩
              have HR : Hid (∀ i', RingAt (F i') r gp gk R6) := fun i' => (H10.out.1.rn.ring.below HB.out).below (hFb i')
              clear hF0 hFb hFc u1 u2
              refine wp_region_fam F HF.out.1 (by kernel_rfl) (by kernel_rfl) ?_
              repeat (go_big_quiet_step (first
                | (go_at_call 40; refine (id_r r gp gk R6 _ _ (HR.out _)).mono ?_; rintro e' w' ⟨hs, hb⟩; exact ⟨by first | rw [hs, HD.out.1] | rw [hs, HD.out.2.1], by subst hb; exact ⟨_, rfl⟩⟩)
                | (go_at_call 39; refine (dist_any _ _ _).mono ?_; rintro e' w' ⟨hs, hb⟩; exact ⟨by first | rw [hs, HD.out.2.2.1] | rw [hs, HD.out.2.2.2], by subst hb; exact ⟨_, rfl⟩⟩)))
              refine wpQuiet_nil ?_
              rintro _ ⟨i3, rfl⟩
              have H13 : Hid (Below w10.heap.size w10 (F i3)) := HB.out.trans ((HF.out.2.1 i3).mono HB.out.size)
              clear f1 f2 HF HR l1
              generalize F i3 = W13 at H13 ⊢
              go_wp2
              go_roundg (m - (i + 1))
              case measure => omega
              case rel => exact ⟨i + 1, by go_num, by omega, rfl, H13⟩
            · have hlI : ¬ (i : Int) + 1 + 1 < (m : Int) := by omega
              go_wp2_with (go_at_call 10; refine (awake12_any _).mono ?_; rintro e w13 ⟨rfl, b13⟩)
              go_ret
              have hbb := (H10.out.1.below HB.out).rn.bel
              exact ⟨rfl, hbb.trans (b13.mono hbb.size)⟩

/-! ### The row's step -/
set_option maxRecDepth 100000 in
theorem lifted (os : Os) (started : os.Started) (H : Type) (enc : TypeId × Value → H) :
    ReturnsInHanded {} Tryz.checked os 5 .any (fun w args => (Rows.routeNearsSpec.pre enc Tryz.prog Tryz.f5 [] false w args ∧ laidMetH Tryz.prog Rows.routeNearsRow.laid w) ∧ sizedMet enc Tryz.prog Tryz.f5 (OpenSpec.ofChange Rows.routeNearsSpec) false w args) (Rows.routeNearsSpec.post enc Tryz.prog Tryz.f5 false true false false) := by
  refine returnsInHanded_of_change_and (C := Tryz.checked) (X := fun w _ => laidMetH Tryz.prog Rows.routeNearsRow.laid w) (fun _ _ _ hh h => h.of_heap hh) own started (by kernel_rfl) Tryz.func5
    (ChangeSpec.witness_at (enc := enc) (C := Tryz.checked) (os := os) (X := fun w _ => laidMetH Tryz.prog Rows.routeNearsRow.laid w) false ({ World.holding Tryz.prog os ⟨#[], #[], []⟩ with heap := (World.holding Tryz.prog os ⟨#[], #[], []⟩).heap.modify 0 fun | .cells _ t frozen => .cells #[.iface 160 (.agg #[.pointer (some ⟨1, 44, none⟩)])] t frozen | o => o }) #[.slice none 0 0, .slice none 0 0, .int .i64 0, .int .u64 0] 8 rfl (by kernel_rfl) (by kernel_rfl) (by kernel_rfl) (by kernel_rfl) (by kernel_rfl) (laidMetH_of_parts (laidMet_nil _ _) (by kernel_rfl))) ?_
  intro W base args ds gs before hval0 hW _ _ hL _
  have hval : ∀ (j : Nat) t v, Tryz.f5.params[j]? = some t → args[j]? = some v → Value.okWide Tryz.prog W .any base t v := hval0
  have hW' := hW
  obtain ⟨p, q, hA0, hV, rfl, hfz, hnd⟩ := hW
  have hA : DataW.TrodAll enc Tryz.prog W 0 (fun _ => true) true Tryz.f5.params.toList args.toList ds p := hA0
  rw [Tryz.params5] at hA hval
  obtain ⟨v0, vs0, d0, ds0, p0, q0, hargs, rfl, rfl, h0, r0⟩ := trodAll_cons hA
  obtain ⟨v1, vs1, d1, ds1, p1, q1, rfl, rfl, rfl, h1, r1⟩ := trodAll_cons r0
  obtain ⟨v2, vs2, d2, ds2, p2, q2, rfl, rfl, rfl, h2, r2⟩ := trodAll_cons r1
  obtain ⟨v3, vs3, d3, ds3, p3, q3, rfl, rfl, rfl, h3, r3⟩ := trodAll_cons r2
  obtain ⟨rfl, rfl, rfl⟩ := trodAll_nil r3
  obtain rfl : args = #[v0, v1, v2, v3] := by cases args; simp_all
  obtain ⟨rfl, rfl⟩ := trodVars_none hV
  obtain ⟨a0, len0, cap0, rfl⟩ := okWide_slice Tryz.underlying22 (hval 0 22 v0 rfl rfl)
  have k0 := h0
  have lt0 : ∀ x ∈ p0, x.block < W.heap.size := by obtain ⟨m, hm⟩ := k0; exact DataW.trod_lt m _ _ _ hm
  have c0 : len0 ≤ cap0 := by
    obtain ⟨fuel, hf⟩ := h0
    exact incap_of Tryz.underlying22 hf
  obtain ⟨t0, w0⟩ : ∃ ts, InRow 1 encU Go.Proofs.YtgiiadjocfnhlabGreatDoor.u64 0 W a0 len0 ts := by
    obtain ⟨fuel, hf⟩ := h0
    exact inrow_of 1 encU Go.Proofs.YtgiiadjocfnhlabGreatDoor.u64 0 22 26 Tryz.underlying22 cellsU1 (by omega) lenU (fun n cs x => uid_of n cs x) hf
  obtain ⟨a1, len1, cap1, rfl⟩ := okWide_slice Tryz.underlying23 (hval 1 23 v1 rfl rfl)
  have k1 := h1
  have lt1 : ∀ x ∈ p1, x.block < W.heap.size := by obtain ⟨m, hm⟩ := k1; exact DataW.trod_lt m _ _ _ hm
  have c1 : len1 ≤ cap1 := by
    obtain ⟨fuel, hf⟩ := h1
    exact incap_of Tryz.underlying23 hf
  obtain ⟨t1, w1⟩ : ∃ ts, InRow 4 Ac10.cells Ac10.ok ac100 W a1 len1 ts := by
    obtain ⟨fuel, hf⟩ := h1
    exact inrow_of 4 Ac10.cells Ac10.ok ac100 23 50 Tryz.underlying23 cellsAc10 (by omega) lenAc10 (fun n cs x => ac10_of n cs x) hf
  obtain ⟨a2, rfl, rfl, rfl, w2⟩ := open_int Tryz.underlying3 (hval 2 3 v2 rfl rfl) h2
  obtain ⟨a3, rfl, rfl, rfl, w3⟩ := open_int Tryz.underlying26 (hval 3 26 v3 rfl rfl) h3
  clear hA0 hval0
  have hE := handle_of_laid hL
  refine (walk a0 len0 cap0 t0 a1 len1 cap1 t1 a2 a3 W hE w0 c0 w1 c1 w2 w3).mono fun e W' ⟨he, bel⟩ => ?_
  subst he
  exact ⟨_, rfl, _, _, _, [], _, [], hW', trodAll_mk1 (shut_bool Tryz.underlying4 _), (trodAll_cons_mk (Below.trod laidOut (by kernel_rfl) (of_decide_eq_true (by kernel_rfl)) k0 bel lt0) (trodAll_cons_mk (Below.trod laidOut (by kernel_rfl) (of_decide_eq_true (by kernel_rfl)) k1 bel lt1) (trodAll_cons_mk (shut_int Tryz.underlying3 w2) (trodAll_cons_mk (shut_int Tryz.underlying26 w3) trodAll_mk0)))), rfl, bel.frame _, fun h => by cases h⟩

theorem over : Rows.routeNearsRow.holds Tryz.pinned (OpenSpec.ofChange Rows.routeNearsSpec) :=
  OpenClaim.holds_of_wide 5 Tryz.f5 rfl rfl rfl rfl rfl rfl rfl ⟨rfl, rfl, rfl, rfl, rfl⟩ rfl rfl rfl rfl rfl (by kernel_rfl) Tryz.func5 (by kernel_rfl)
    (of_decide_eq_true (by kernel_rfl)) (by unfold Func.isWrapper; first | (rw [if_pos (by decide +kernel)]; kernel_rfl) | (rw [if_neg (by decide +kernel)]; exact ⟨rfl, rfl⟩))
    (fun os started H enc _ => lifted os started H enc)

theorem card : Rows.RouteNearsCardSaid :=
  Claim7.holds_tied_plain_at .later [] [.handle] true (true, "38ed07e560a91184882e99392f489255bb7191b244fb549ebb9b54e29bf314a8") true
    over (fun _ h => by cases h) (by kernel_rfl) (fun _ h => by cases h) routeNears_row_tie rfl ⟨rfl, rfl⟩ (by kernel_rfl) rfl
    (fun f fn hf hfn => by
      obtain rfl : f = 5 := Option.some.inj ((show Tryz.prog.funcNamed "wigwag/wigwaglaw12.RouteNears" = some 5 by kernel_rfl).symm.trans hf) |>.symm
      obtain rfl : fn = Tryz.f5 := (Option.some.inj (Tryz.func5.symm.trans hfn)).symm
      exact ⟨by kernel_rfl, fun j t ht => by
        rw [Tryz.params5] at ht
        have hall : ∀ t ∈ ([22, 23, 3, 26] : List TypeId), Tryz.prog.wantsStandIn t = false := by
          intro t ht
          simp only [List.mem_cons, List.not_mem_nil, or_false] at ht
          rcases ht with rfl | rfl | rfl | rfl <;> kernel_rfl
        exact hall t (by simpa using List.mem_of_getElem? (l := ([22, 23, 3, 26] : List TypeId)) (i := j) (by simpa using ht))⟩)
    (by kernel_rfl)

end Go.Proofs.YtgiiadjocfnhlabGreatDoor.routeNears

namespace Go.Proofs.YtgiiadjocfnhlabGreatDoor
/-- Proved: for every list of places, every list of calls, every address and every place: on a ring on which all is as it should be each step of a way comes nearer to the place, but the last one, and a way is no longer than there are members; behind any 30 calls; errors.errorType being laid as the program's text lays it (the card's tie, over the pruned copy). -/
theorem routeNears_holds : Rows.RouteNearsCardSaid := routeNears.card
#print axioms routeNears_holds
end Go.Proofs.YtgiiadjocfnhlabGreatDoor
