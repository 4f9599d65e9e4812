/- Proved: for every list of places, every list of calls and every fix: on a ring on which all is as it should be a place of a member's own is no way, and the place behind it is one step away, at its owner; behind any 25 calls; errors.errorType being laid as the program's text lays it (the card's tie, over the pruned copy).
  The frame is the guide's own shell (proof-skeleton.mjs) at this function; the walk and all ahead of it are mine. -/
import Derived.Test.YtgiiadjocfnhlabGreatDoorRows
import Derived.Test.YtgiiadjocfnhlabGreatDoorJoinPrInts
import Derived.Test.YtgiiadjocfnhlabGreatDoorJoinPeSame
import Derived.Test.YtgiiadjocfnhlabGreatDoorRfM
import Derived.Test.YtgiiadjocfnhlabGreatDoorInCap
import Derived.Test.YtgiiadjocfnhlabGreatDoorJoinRtMath
import Derived.Deep.CutBlock
import Derived.Deep.DeepCutAuto
import Derived.Deep.LoopGhost
import Derived.Deep.RegionHeld3
import Derived.WalkKit
import Derived.WalkLawsBesides
import Derived.ProofKit
import Derived.OpenShut
import Derived.ChangeSame
import Derived.ChangeVars
import Derived.JoinedOf
import Derived.RowKit
import Derived.RowKitTokens
import Derived.LaidLaws
import Derived.LaidHandle
import Derived.Stop.Joined
import Derived.SevenTiedAt
import Derived.Test.YtgiiadjocfnhlabGreatDoorTie
import Derived.Test.YtgiiadjocfnhlabGreatDoorCards
import Derived.ShutString
import Derived.ChangeOld
import Derived.Below
namespace Go.Proofs.YtgiiadjocfnhlabGreatDoor.routeOwn
open Go.ChangeShapes Go.WideShapes Go.ChangeAt Go.RowKit
open Go.ChangeMaps (open_string shut_string)
set_option linter.unusedVariables false

theorem own : ownKnob Tryz.prog.godebug = none := by kernel_rfl
theorem laidOut : laidOutB Tryz.prog = true := by kernel_rfl


theorem et : Tryz.prog.globalNamed "errors.errorType" = some 0 := by kernel_rfl
theorem rt : (Tryz.prog.cutTypes.find? (·.1 == "internal/reflectlite.rtype")).map (·.2) = some 160 := by kernel_rfl
theorem oneRow : ((List.range 232).filter fun t => Tryz.prog.rowNamed t [101, 114, 114, 111, 114]) = [44] := by kernel_rfl
theorem typesSize : Tryz.prog.types.size = 232 := by kernel_rfl
/-- What the tied variable gives a walk: its one cell. -/
theorem handle_of_laid {W : World} (h : laidMetH Tryz.prog Rows.routeOwnRow.laid W) : ErrType W := by
  have h' : laidMet Tryz.prog [] W ∧ handlesMet Tryz.prog Rows.routeOwnRow.laid W := h
  obtain ⟨name, u, ty, e1, e2, e3, e4, e5⟩ := h'.2 _ (List.mem_singleton.2 rfl)
  have en : name = [101, 114, 114, 111, 114] := (Option.some.inj e1).symm
  subst en
  obtain rfl := Option.some.inj (rt.symm.trans e2)
  have hm : ty ∈ (List.range 232).filter fun t => Tryz.prog.rowNamed t [101, 114, 114, 111, 114] := List.mem_filter.2 ⟨List.mem_range.2 (by rw [← typesSize]; exact e3), e4⟩
  rw [oneRow] at hm
  obtain rfl := List.mem_singleton.1 hm
  have hh : typeHandle Tryz.prog 44 = .pointer (some ⟨1, 44, none⟩) := by kernel_rfl
  rw [hh] at e5
  unfold ErrType
  simpa using World.var?_cell et e5 0

/-! ### STEP 1: the walk -/
set_option maxRecDepth 100000 in
set_option maxHeartbeats 20000000 in
theorem walk (a0 : Option Addr) (len0 cap0 : Nat) (t0 : List Int) (a1 : Option Addr) (len1 cap1 : Nat) (t1 : List Ac10) (a2 : Int) (w : World) (hE : ErrType w) (w0 : InRow 1 encU Go.Proofs.YtgiiadjocfnhlabGreatDoor.u64 0 w a0 len0 t0) (c0 : len0 ≤ cap0) (w1 : InRow 4 Ac10.cells Ac10.ok ac100 w a1 len1 t1) (c1 : len1 ≤ cap1) (w2 : (Lit.int .i64 a2).wf = true) :
    Calls Tryz.prog 6 #[.slice a0 len0 cap0, .slice a1 len1 cap1, .int .i64 a2] w fun e w' => e = .returned (.bool true) ∧ Below w.heap.size w w' := by
  have HMd : Hid _ := made_r a0 len0 cap0 t0 a1 len1 cap1 t1 25 w w0 c0 w1 hE (by omega)
  clear w0 w1 c0 c1 hE w2
  go_enter Tryz.func6, Tryz.ntmps6
  go_wp2_with fail
  refine Calls.mono HMd.out ?_
  clear HMd
  rintro e w3 h3
  rcases h3 with ⟨x0, x1, x2, x3, rfl, hsl, b3⟩ | ⟨r, gp, gk, R, x0, x1, x2, x3, rfl, hsl, hrn, _⟩
  · obtain ⟨⟨p0, p1, p2, rfl⟩, ⟨p3, p4, p5, rfl⟩, ⟨p6, p7, p8, rfl⟩, ⟨p9, p10, p11, rfl⟩⟩ := hsl
    obtain ⟨W4, hW4⟩ : ∃ W4, W4 = w3.alloc (.cells #[.slice p0 p1 p2, .slice p3 p4 p5, .slice p6 p7 p8, .slice p9 p10 p11] 34) := ⟨_, rfl⟩
    have B4 : Hid (Below w.heap.size w W4) := by rw [hW4]; exact b3.trans ((below_one _ _).mono b3.size)
    clear b3
    go_upto_region 2 with fail
    rw [← hW4]
    clear hW4
    go_wp2_with fail
    refine (awake12_any _).mono ?_
    rintro e w5 ⟨rfl, b5⟩
    go_wp2
    go_ret
    exact ⟨rfl, B4.out.trans (b5.mono B4.out.size)⟩
  · obtain ⟨⟨p0, p1, p2, rfl⟩, ⟨p3, p4, p5, rfl⟩, ⟨p6, p7, p8, rfl⟩, ⟨p9, p10, p11, rfl⟩⟩ := hsl
    obtain ⟨W4, hW4⟩ : ∃ W4, W4 = w3.alloc (.cells #[.slice p0 p1 p2, .slice p3 p4 p5, .slice p6 p7 p8, .slice p9 p10 p11] 34) := ⟨_, rfl⟩
    have H4 : Hid (Rn w W4 r gp gk R) := by rw [hW4]; exact hrn.below (below_one _ _)
    clear hrn
    go_upto_region 2 with fail
    rw [← hW4]
    clear hW4
    have hll : R.live.length ≤ 32 := liveTo_len R 32
    obtain ⟨n, hn⟩ : ∃ n, n = R.live.length := ⟨_, rfl⟩
    rw [← hn] at hll
    have HN : Hid (n = R.live.length) := hn
    clear hn
    go_wp2
    go_loopg [10] (4 * n + 8) (fun kx s wr => ∃ j : Nat, s = .int .i64 j ∧ j ≤ 4 * n + 8 ∧ kx = 4 * n + 8 - j ∧ Hid (Rn w wr r gp gk (R.rounds j)))
    case atStart => exact ⟨0, rfl, Nat.zero_le _, rfl, (H4.out : Rn w W4 r gp gk (R.rounds 0))⟩
    case round =>
      obtain ⟨j, rfl, hj, rfl, HB⟩ := hrel
      have HLn : Hid ((R.rounds j).live.length = n) := by show (R.rounds j).live.length = n; rw [(alike_rounds R j).live]; exact HN.out.symm
      by_cases hjl : j < 4 * n + 8
      · have hjl' : (j : Int) < 4 * (n : Int) + 8 := by omega
        go_wp2_with fail
        refine (live_r r gp gk (R.rounds j) _ HB.out.ring).mono ?_
        rintro e w5 ⟨la, lc, rfl, _, _, b5⟩
        rw [HLn.out]
        have H5 : Hid (Rn w w5 r gp gk (R.rounds j)) := HB.out.below b5
        clear b5
        go_wp2_with (first
          | (go_at_call 32; refine (rounds_r n _ (by omega)).mono ?_; rintro e w' ⟨rfl, rfl⟩)
          | (go_at_call 31; refine (round_r r gp gk (R.rounds j) _ H5.out.ring).mono ?_; rintro e w6 ⟨rfl, h6, k6⟩))
        go_roundg (4 * n + 8 - (j + 1))
        case measure => omega
        case rel => exact ⟨j + 1, by go_num, by omega, rfl, (H5.out.step h6 H5.out.inv.round k6 : Rn w w6 r gp gk (R.rounds (j + 1)))⟩
      · obtain rfl : j = 4 * n + 8 := by omega
        have hjl' : ¬ ((4 * n + 8 : Nat) : Int) < 4 * (n : Int) + 8 := by omega
        have hrg := H4.out.inv.calm (m := 4 * n + 8) (by have := HN.out; omega)
        have HRG : Hid (Rgt 3 (R.rounds (4 * n + 8))) := hrg
        clear hrg
        generalize R.rounds (4 * n + 8) = R6 at HB HRG HLn
        obtain ⟨w6, hw6⟩ : ∃ w6, w6 = wr := ⟨_, rfl⟩
        rw [← hw6] at HB ⊢
        clear hw6
        go_wp2_with fail
        refine (live_r r gp gk R6 _ HB.out.ring).mono ?_
        rintro e w7 ⟨la, lc, rfl, _, _, b7⟩
        rw [HLn.out]
        have H7 : Hid (Rn w w7 r gp gk R6) := HB.out.below b7
        clear b7 HB H4 HN
        go_wp2_with fail
        refine (rounds_r n _ (by omega)).mono ?_
        rintro e w' ⟨rfl, hw'⟩
        subst w'
        go_wp2_with fail
        refine (fnew_r w w7 r gp gk R6 H7.out).mono ?_
        rintro e w8 ⟨f, gm, rfl, h8⟩
        have H8 : Hid (Rt w w8 r gp gk f gm R6 (fun _ => [])) := h8
        clear h8 H7
        go_upto_if 41 with fail
        go_cut [11] (fun v wx => v = .pointer (some ⟨f, 0, none⟩) ∧ ∃ G, Hid (Rt w wx r gp gk f gm R6 G))
        case first =>
          by_cases hfx : 0 < a2
          · go_wp2_with (go_at_call 12; refine (fround_r w w8 r gp gk f gm R6 _ H8.out).mono ?_; rintro e w9 ⟨rfl, h9⟩)
            go_meet
            exact ⟨rfl, _, h9⟩
          · go_wp2
            go_meet
            exact ⟨rfl, _, H8⟩
        case rest =>
          rename World => W9
          obtain ⟨rfl, G, H9⟩ := hcut
          clear H8
          go_wp2_with fail
          refine (live_r r gp gk R6 _ H9.out.rn.ring).mono ?_
          rintro e w10 ⟨lb, ld, rfl, hlb, _, b10⟩
          rw [HLn.out] at hlb ⊢
          have H10 : Hid (Rt w w10 r gp gk f gm R6 G ∧ InIn w10 lb n R6.live) := ⟨H9.out.below b10, hlb⟩
          clear b10 hlb H9
          go_wp2
          go_loopg [47] n (fun kx s wr => ∃ i : Nat, s = .int .i64 i ∧ i ≤ n ∧ kx = n - i ∧ Hid (Below w10.heap.size w10 wr))
          case atStart => exact ⟨0, rfl, Nat.zero_le _, rfl, (Below.refl _ _ : Below w10.heap.size w10 w10)⟩
          case round =>
            obtain ⟨i, rfl, hi, rfl, HB⟩ := hrel
            by_cases hlt : i < n
            · have hiI : (0 : Int) ≤ (i : Int) ∧ (i : Int) < (n : Int) := by omega
              obtain ⟨mb, mo, hmb, hml, _, hmc⟩ := (H10.out.2.below (Nat.le_refl _) HB.out).one (v := Value.int .i64) (fun _ => rfl) (i := i) hlt
              subst hmb
              have hmem : R6.live.getD i 0 ∈ R6.live := by rw [List.getD_eq_getElem?_getD, List.getElem?_eq_getElem (by have := HLn.out; omega)]; simp
              obtain ⟨y, hy⟩ : ∃ y, y = R6.live.getD i 0 := ⟨_, rfl⟩
              rw [← hy] at hmc hmem
              have HY : Hid (R6.lives y = true) := ((mem_live R6 _).1 hmem).2.2
              clear hmem hy
              obtain ⟨iy, hiy⟩ : ∃ o, o = R6.idOf y := ⟨_, rfl⟩
              have hup : Plc iy := by rw [hiy]; exact HRG.out.1.u y
              obtain ⟨x2, hx2⟩ : ∃ o, o = IntKind.u64.wrap (iy + 1) := ⟨_, rfl⟩
              have hx2' : x2 = (iy + 1) % 18446744073709551616 := by rw [hx2]; simp [IntKind.wrap, IntKind.bits, IntKind.signed]
              have hwh := way_head HRG.out G HY.out
              rw [← hiy, ← hx2'] at hwh
              have HI : Hid (R6.idOf y = iy ∧ Plc iy ∧ IntKind.u64.wrap (iy + 1) = x2 ∧ Plc x2 ∧ R6.stops G iy y 0 ∧ R6.stops G x2 y 1 ∧ R6.hopTo G x2 y 1 = R6.head y ∧ x2 = (R6.idOf y + 1) % 18446744073709551616) := ⟨hiy.symm, hup, hx2.symm, by rw [hx2']; unfold Plc; omega, by rw [hiy]; exact way_own HRG.out.1 G HY.out, hwh.1, hwh.2, by rw [hx2', hiy]⟩
              clear hiy hup hx2 hx2' hwh
              obtain ⟨z, hz⟩ : ∃ z, z = R6.head y := ⟨_, rfl⟩
              have HZ : Hid (R6.head y = z) := hz.symm
              clear hz
              go_wp2_with (first
                | (go_at_call 40; refine (id_r r gp gk R6 y _ (H10.out.1.rn.ring.below HB.out)).mono ?_; rintro e w' ⟨rfl, hw'⟩; subst w'; rw [HI.out.1])
                | fail)
              refine (path_calm r gp gk f gm R6 G y iy _ (H10.out.1.rn.ring.below HB.out) (H10.out.1.fg.below HB.out) HRG.out HI.out.2.1 HY.out).mono ?_
              rintro e w11 ⟨k1, pa, pc, _, hs1, rfl, _, b11⟩
              obtain rfl : k1 = 0 := stops_uniq hs1 HI.out.2.2.2.2.1
              have H11 : Hid (Below w10.heap.size w10 w11) := HB.out.trans (b11.mono HB.out.size)
              clear hs1 b11 hmc hml
              go_wp2_with (first
                | (go_at_call 40; refine (id_r r gp gk R6 y _ (H10.out.1.rn.ring.below H11.out)).mono ?_; rintro e w' ⟨rfl, hw'⟩; subst w'; rw [HI.out.1])
                | fail)
              try rw [HI.out.2.2.1]
              refine (path_calm r gp gk f gm R6 G y x2 _ (H10.out.1.rn.ring.below H11.out) (H10.out.1.fg.below H11.out) HRG.out HI.out.2.2.2.1 HY.out).mono ?_
              rintro e w12 ⟨k2, qa, qc, _, hs2, rfl, hin2, b12⟩
              obtain rfl : k2 = 1 := stops_uniq hs2 HI.out.2.2.2.2.2.1
              have H12 : Hid (Below w10.heap.size w10 w12) := H11.out.trans (b12.mono H11.out.size)
              obtain ⟨qb, qo, hqb, hql, _, hqc⟩ := hin2.one (v := Value.int .i64) (fun _ => rfl) (i := 1) (by omega)
              subst hqb
              rw [way_getD R6 G x2 y (by omega), HI.out.2.2.2.2.2.2.1, HZ.out] at hqc
              clear hs2 b12 hin2
              have nzz : (z != z) = false := by simp
              have HOF : Hid (∀ W, Below w12.heap.size w12 W → Calls Tryz.prog 34 #[.pointer (some ⟨r, 0, none⟩)] W fun e w' => ∃ (g : Nat) (b : Option Addr) (c d : Nat), e = .returned (.agg #[.slice (some ⟨g, 0, none⟩) n c, .slice b n d]) ∧ Below w12.heap.size w12 w' ∧ ∀ W', Below w'.heap.size w' W' → Calls Tryz.prog 35 #[.agg #[.slice (some ⟨g, 0, none⟩) n c, .slice b n d], .int .u64 x2] W' fun e w9 => e = .returned (.int .i64 z) ∧ Below w12.heap.size w12 w9) := fun W hW => by
                refine (of_r r gp gk R6 W ((H10.out.1.rn.ring.below H12.out).below hW) HRG.out.1).mono ?_
                rintro e w' ⟨C, g, b, c, d, he, hC, hm, _, _, hp, _, b'⟩
                rw [HLn.out] at he hm hp
                obtain ⟨ko, hko, hown, hgo⟩ := owner_head HRG.out hC HY.out
                rw [← HI.out.2.2.2.2.2.2.2] at hown
                have hcl : C.length = n := by rw [hC.len]; exact HLn.out
                have h4 : 4 ≤ n := by rw [← HLn.out]; exact live_four HRG.out.1
                refine ⟨g, b, c, d, he, hW.trans (b'.mono hW.size), fun W' hW' => ?_⟩
                refine (cowner_r R6 C g c d n ko b x2 W' (hm.below (Nat.le_refl _) hW') (hp.below (Nat.le_refl _) hW') h4 hown (by omega)).mono ?_
                rintro e w9 ⟨he9, b9⟩
                have hbb := (hW.trans (b'.mono hW.size))
                exact ⟨by rw [he9, hgo, HZ.out], (hbb.trans (hW'.mono hbb.size)).trans (b9.mono (Nat.le_trans hbb.size hW'.size))⟩
              go_upto_region 16 with fail
              go_cut [98] (fun v wx => v = .bool false ∧ Hid (Below w12.heap.size w12 wx))
              case first =>
                go_region_held3 (fun W' => W'.cell? ⟨qb, qo + 1, none⟩ = some (.int .i64 z))
                  (first
                    | go_keep
                    | assumption)
                  (first
                    | (go_at_call 34; refine Calls.mono (HOF.out _ ?_) ?_; exact ⟨rfl, rfl, rfl, Nat.le_refl _, fun _ _ => rfl⟩; rintro e wO ⟨g, b, c, d, rfl, bO, hOw⟩
                       have HOW : Hid _ := hOw
                       have BO : Hid (Below w12.heap.size w12 wO) := bO
                       have hqc2 := cell_grown hqc bO
                       have hql2 := cell_block hqc2
                       clear hOw bO)
                    | (go_at_call 40; refine Calls.mono (id_r r gp gk R6 y _ ?_) ?_; first | exact (H10.out.1.rn.ring.below H12.out).below BO.out | exact (H10.out.1.rn.ring.below H12.out).below ⟨rfl, rfl, rfl, Nat.le_refl _, fun _ _ => rfl⟩
                       rintro e w' ⟨rfl, hw'⟩; subst w'; rw [HI.out.1])
                    | (go_at_call 35; (try rw [HI.out.2.2.1]); refine Calls.mono (HOW.out _ (Below.refl _ _)) ?_; rintro e wQ ⟨rfl, bQ⟩
                       have hqc3 := cell_grown hqc bQ
                       have hql3 := cell_block hqc3
                       have BQ : Hid (Below w12.heap.size w12 wQ) := bQ
                       clear bQ))
                all_goals
                  go_wp2
                  go_meet
                  exact ⟨by simp, BQ.out⟩
              case rest =>
                rename World => W13
                obtain ⟨rfl, HC⟩ := hcut
                have H13 : Hid (Below w10.heap.size w10 W13) := H12.out.trans (HC.out.mono H12.out.size)
                clear hqc hql HOF
                go_wp2
                go_roundg (n - (i + 1))
                case measure => omega
                case rel => exact ⟨i + 1, by go_num, by omega, rfl, H13⟩
            · go_wp2_with (go_at_call 10; refine (awake12_any _).mono ?_; rintro e w13 ⟨rfl, b13⟩)
              go_ret
              have hbb := (H10.out.1.below HB.out).rn.bel
              exact ⟨rfl, hbb.trans (b13.mono hbb.size)⟩

/-! ### The row's step -/
set_option maxRecDepth 100000 in
theorem lifted (os : Os) (started : os.Started) (H : Type) (enc : TypeId × Value → H) :
    ReturnsInHanded {} Tryz.checked os 6 .any (fun w args => (Rows.routeOwnSpec.pre enc Tryz.prog Tryz.f6 [] false w args ∧ laidMetH Tryz.prog Rows.routeOwnRow.laid w) ∧ sizedMet enc Tryz.prog Tryz.f6 (OpenSpec.ofChange Rows.routeOwnSpec) false w args) (Rows.routeOwnSpec.post enc Tryz.prog Tryz.f6 false true false false) := by
  refine returnsInHanded_of_change_and (C := Tryz.checked) (X := fun w _ => laidMetH Tryz.prog Rows.routeOwnRow.laid w) (fun _ _ _ hh h => h.of_heap hh) own started (by kernel_rfl) Tryz.func6
    (ChangeSpec.witness_at (enc := enc) (C := Tryz.checked) (os := os) (X := fun w _ => laidMetH Tryz.prog Rows.routeOwnRow.laid w) false ({ World.holding Tryz.prog os ⟨#[], #[], []⟩ with heap := (World.holding Tryz.prog os ⟨#[], #[], []⟩).heap.modify 0 fun | .cells _ t frozen => .cells #[.iface 160 (.agg #[.pointer (some ⟨1, 44, none⟩)])] t frozen | o => o }) #[.slice none 0 0, .slice none 0 0, .int .i64 0] 8 rfl (by kernel_rfl) (by kernel_rfl) (by kernel_rfl) (by kernel_rfl) (by kernel_rfl) (laidMetH_of_parts (laidMet_nil _ _) (by kernel_rfl))) ?_
  intro W base args ds gs before hval0 hW _ _ hL _
  have hval : ∀ (j : Nat) t v, Tryz.f6.params[j]? = some t → args[j]? = some v → Value.okWide Tryz.prog W .any base t v := hval0
  have hW' := hW
  obtain ⟨p, q, hA0, hV, rfl, hfz, hnd⟩ := hW
  have hA : DataW.TrodAll enc Tryz.prog W 0 (fun _ => true) true Tryz.f6.params.toList args.toList ds p := hA0
  rw [Tryz.params6] at hA hval
  obtain ⟨v0, vs0, d0, ds0, p0, q0, hargs, rfl, rfl, h0, r0⟩ := trodAll_cons hA
  obtain ⟨v1, vs1, d1, ds1, p1, q1, rfl, rfl, rfl, h1, r1⟩ := trodAll_cons r0
  obtain ⟨v2, vs2, d2, ds2, p2, q2, rfl, rfl, rfl, h2, r2⟩ := trodAll_cons r1
  obtain ⟨rfl, rfl, rfl⟩ := trodAll_nil r2
  obtain rfl : args = #[v0, v1, v2] := by cases args; simp_all
  obtain ⟨rfl, rfl⟩ := trodVars_none hV
  obtain ⟨a0, len0, cap0, rfl⟩ := okWide_slice Tryz.underlying22 (hval 0 22 v0 rfl rfl)
  have k0 := h0
  have lt0 : ∀ x ∈ p0, x.block < W.heap.size := by obtain ⟨m, hm⟩ := k0; exact DataW.trod_lt m _ _ _ hm
  have c0 : len0 ≤ cap0 := by
    obtain ⟨fuel, hf⟩ := h0
    exact incap_of Tryz.underlying22 hf
  obtain ⟨t0, w0⟩ : ∃ ts, InRow 1 encU Go.Proofs.YtgiiadjocfnhlabGreatDoor.u64 0 W a0 len0 ts := by
    obtain ⟨fuel, hf⟩ := h0
    exact inrow_of 1 encU Go.Proofs.YtgiiadjocfnhlabGreatDoor.u64 0 22 26 Tryz.underlying22 cellsU1 (by omega) lenU (fun n cs x => uid_of n cs x) hf
  obtain ⟨a1, len1, cap1, rfl⟩ := okWide_slice Tryz.underlying23 (hval 1 23 v1 rfl rfl)
  have k1 := h1
  have lt1 : ∀ x ∈ p1, x.block < W.heap.size := by obtain ⟨m, hm⟩ := k1; exact DataW.trod_lt m _ _ _ hm
  have c1 : len1 ≤ cap1 := by
    obtain ⟨fuel, hf⟩ := h1
    exact incap_of Tryz.underlying23 hf
  obtain ⟨t1, w1⟩ : ∃ ts, InRow 4 Ac10.cells Ac10.ok ac100 W a1 len1 ts := by
    obtain ⟨fuel, hf⟩ := h1
    exact inrow_of 4 Ac10.cells Ac10.ok ac100 23 50 Tryz.underlying23 cellsAc10 (by omega) lenAc10 (fun n cs x => ac10_of n cs x) hf
  obtain ⟨a2, rfl, rfl, rfl, w2⟩ := open_int Tryz.underlying3 (hval 2 3 v2 rfl rfl) h2
  clear hA0 hval0
  have hE := handle_of_laid hL
  refine (walk a0 len0 cap0 t0 a1 len1 cap1 t1 a2 W hE w0 c0 w1 c1 w2).mono fun e W' ⟨he, bel⟩ => ?_
  subst he
  exact ⟨_, rfl, _, _, _, [], _, [], hW', trodAll_mk1 (shut_bool Tryz.underlying4 _), (trodAll_cons_mk (Below.trod laidOut (by kernel_rfl) (of_decide_eq_true (by kernel_rfl)) k0 bel lt0) (trodAll_cons_mk (Below.trod laidOut (by kernel_rfl) (of_decide_eq_true (by kernel_rfl)) k1 bel lt1) (trodAll_cons_mk (shut_int Tryz.underlying3 w2) trodAll_mk0))), rfl, bel.frame _, fun h => by cases h⟩

theorem over : Rows.routeOwnRow.holds Tryz.pinned (OpenSpec.ofChange Rows.routeOwnSpec) :=
  OpenClaim.holds_of_wide 6 Tryz.f6 rfl rfl rfl rfl rfl rfl rfl ⟨rfl, rfl, rfl, rfl, rfl⟩ rfl rfl rfl rfl rfl (by kernel_rfl) Tryz.func6 (by kernel_rfl)
    (of_decide_eq_true (by kernel_rfl)) (by unfold Func.isWrapper; first | (rw [if_pos (by decide +kernel)]; kernel_rfl) | (rw [if_neg (by decide +kernel)]; exact ⟨rfl, rfl⟩))
    (fun os started H enc _ => lifted os started H enc)

theorem card : Rows.RouteOwnCardSaid :=
  Claim7.holds_tied_plain_at .later [] [.handle] true (true, "38ed07e560a91184882e99392f489255bb7191b244fb549ebb9b54e29bf314a8") true
    over (fun _ h => by cases h) (by kernel_rfl) (fun _ h => by cases h) routeOwn_row_tie rfl ⟨rfl, rfl⟩ (by kernel_rfl) rfl
    (fun f fn hf hfn => by
      obtain rfl : f = 6 := Option.some.inj ((show Tryz.prog.funcNamed "wigwag/wigwaglaw12.RouteOwn" = some 6 by kernel_rfl).symm.trans hf) |>.symm
      obtain rfl : fn = Tryz.f6 := (Option.some.inj (Tryz.func6.symm.trans hfn)).symm
      exact ⟨by kernel_rfl, fun j t ht => by
        rw [Tryz.params6] at ht
        have hall : ∀ t ∈ ([22, 23, 3] : List TypeId), Tryz.prog.wantsStandIn t = false := by
          intro t ht
          simp only [List.mem_cons, List.not_mem_nil, or_false] at ht
          rcases ht with rfl | rfl | rfl <;> kernel_rfl
        exact hall t (by simpa using List.mem_of_getElem? (l := ([22, 23, 3] : List TypeId)) (i := j) (by simpa using ht))⟩)
    (by kernel_rfl)

end Go.Proofs.YtgiiadjocfnhlabGreatDoor.routeOwn

namespace Go.Proofs.YtgiiadjocfnhlabGreatDoor
/-- Proved: for every list of places, every list of calls and every fix: on a ring on which all is as it should be a place of a member's own is no way, and the place behind it is one step away, at its owner; behind any 25 calls; errors.errorType being laid as the program's text lays it (the card's tie, over the pruned copy). -/
theorem routeOwn_holds : Rows.RouteOwnCardSaid := routeOwn.card
#print axioms routeOwn_holds
end Go.Proofs.YtgiiadjocfnhlabGreatDoor
