/- Proved: for every list of places, every list of calls, every address and every place: behind any 25 calls each step of a way is what Next says, and the last one says itself; errors.errorType being laid as the program's text lays it (the card's tie, over the pruned copy).
  The frame is the guide's own shell (proof-skeleton.mjs) at this function; the walk and all ahead of it are mine. -/
import Derived.Test.YtgiiadjocfnhlabGreatDoorRows
import Derived.Test.YtgiiadjocfnhlabGreatDoorJoinPrInts
import Derived.Test.YtgiiadjocfnhlabGreatDoorJoinPeSame
import Derived.Test.YtgiiadjocfnhlabGreatDoorRfM
import Derived.Test.YtgiiadjocfnhlabGreatDoorInCap
import Derived.Test.YtgiiadjocfnhlabGreatDoorJoinRtMath
import Derived.Deep.CutBlock
import Derived.Deep.DeepCutAuto
import Derived.Deep.LoopGhost
import Derived.WalkKit
import Derived.WalkLawsBesides
import Derived.ProofKit
import Derived.OpenShut
import Derived.ChangeSame
import Derived.ChangeVars
import Derived.JoinedOf
import Derived.RowKit
import Derived.RowKitTokens
import Derived.LaidLaws
import Derived.LaidHandle
import Derived.Stop.Joined
import Derived.SevenTiedAt
import Derived.Test.YtgiiadjocfnhlabGreatDoorTie
import Derived.Test.YtgiiadjocfnhlabGreatDoorCards
import Derived.ShutString
import Derived.ChangeOld
import Derived.Below
namespace Go.Proofs.YtgiiadjocfnhlabGreatDoor.routeSteps
open Go.ChangeShapes Go.WideShapes Go.ChangeAt Go.RowKit
open Go.ChangeMaps (open_string shut_string)
set_option linter.unusedVariables false

theorem own : ownKnob Tryz.prog.godebug = none := by kernel_rfl
theorem laidOut : laidOutB Tryz.prog = true := by kernel_rfl


theorem et : Tryz.prog.globalNamed "errors.errorType" = some 0 := by kernel_rfl
theorem rt : (Tryz.prog.cutTypes.find? (·.1 == "internal/reflectlite.rtype")).map (·.2) = some 160 := by kernel_rfl
theorem oneRow : ((List.range 232).filter fun t => Tryz.prog.rowNamed t [101, 114, 114, 111, 114]) = [44] := by kernel_rfl
theorem typesSize : Tryz.prog.types.size = 232 := by kernel_rfl
/-- What the tied variable gives a walk: its one cell. -/
theorem handle_of_laid {W : World} (h : laidMetH Tryz.prog Rows.routeStepsRow.laid W) : ErrType W := by
  have h' : laidMet Tryz.prog [] W ∧ handlesMet Tryz.prog Rows.routeStepsRow.laid W := h
  obtain ⟨name, u, ty, e1, e2, e3, e4, e5⟩ := h'.2 _ (List.mem_singleton.2 rfl)
  have en : name = [101, 114, 114, 111, 114] := (Option.some.inj e1).symm
  subst en
  obtain rfl := Option.some.inj (rt.symm.trans e2)
  have hm : ty ∈ (List.range 232).filter fun t => Tryz.prog.rowNamed t [101, 114, 114, 111, 114] := List.mem_filter.2 ⟨List.mem_range.2 (by rw [← typesSize]; exact e3), e4⟩
  rw [oneRow] at hm
  obtain rfl := List.mem_singleton.1 hm
  have hh : typeHandle Tryz.prog 44 = .pointer (some ⟨1, 44, none⟩) := by kernel_rfl
  rw [hh] at e5
  unfold ErrType
  simpa using World.var?_cell et e5 0

/-! ### STEP 1: the walk -/
set_option maxRecDepth 100000 in
set_option maxHeartbeats 2000000 in
theorem walk (a0 : Option Addr) (len0 cap0 : Nat) (t0 : List Int) (a1 : Option Addr) (len1 cap1 : Nat) (t1 : List Ac10) (a2 : Int) (a3 : Int) (w : World) (hE : ErrType w) (w0 : InRow 1 encU Go.Proofs.YtgiiadjocfnhlabGreatDoor.u64 0 w a0 len0 t0) (c0 : len0 ≤ cap0) (w1 : InRow 4 Ac10.cells Ac10.ok ac100 w a1 len1 t1) (c1 : len1 ≤ cap1) (w2 : (Lit.int .i64 a2).wf = true) (w3 : (Lit.int .u64 a3).wf = true) :
    Calls Tryz.prog 7 #[.slice a0 len0 cap0, .slice a1 len1 cap1, .int .i64 a2, .int .u64 a3] w fun e w' => e = .returned (.bool true) ∧ Below w.heap.size w w' := by
  have HMd : Hid _ := made_r a0 len0 cap0 t0 a1 len1 cap1 t1 25 w w0 c0 w1 hE (by omega)
  have HX3 : Hid (Plc a3) := by show Plc a3; obtain ⟨z0, z1⟩ := bounds_u64 w3; unfold Plc; omega
  clear w0 w1 c0 c1 hE w2 w3
  go_enter Tryz.func7, Tryz.ntmps7
  go_wp2_with fail
  refine Calls.mono HMd.out ?_
  clear HMd
  rintro e w3 h3
  rcases h3 with ⟨x0, x1, x2, x3, rfl, hsl, b3⟩ | ⟨r, gp, gk, R, x0, x1, x2, x3, rfl, hsl, hrn, _⟩
  · obtain ⟨⟨p0, p1, p2, rfl⟩, ⟨p3, p4, p5, rfl⟩, ⟨p6, p7, p8, rfl⟩, ⟨p9, p10, p11, rfl⟩⟩ := hsl
    obtain ⟨W4, hW4⟩ : ∃ W4, W4 = w3.alloc (.cells #[.slice p0 p1 p2, .slice p3 p4 p5, .slice p6 p7 p8, .slice p9 p10 p11] 34) := ⟨_, rfl⟩
    have B4 : Hid (Below w.heap.size w W4) := by rw [hW4]; exact b3.trans ((below_one _ _).mono b3.size)
    clear b3
    go_upto_region 2 with fail
    rw [← hW4]
    clear hW4
    go_wp2_with fail
    refine (awake12_any _).mono ?_
    rintro e w5 ⟨rfl, b5⟩
    go_wp2
    go_ret
    exact ⟨rfl, B4.out.trans (b5.mono B4.out.size)⟩
  · obtain ⟨⟨p0, p1, p2, rfl⟩, ⟨p3, p4, p5, rfl⟩, ⟨p6, p7, p8, rfl⟩, ⟨p9, p10, p11, rfl⟩⟩ := hsl
    obtain ⟨W4, hW4⟩ : ∃ W4, W4 = w3.alloc (.cells #[.slice p0 p1 p2, .slice p3 p4 p5, .slice p6 p7 p8, .slice p9 p10 p11] 34) := ⟨_, rfl⟩
    have H4 : Hid (Rn w W4 r gp gk R) := by rw [hW4]; exact hrn.below (below_one _ _)
    clear hrn
    go_upto_region 2 with fail
    rw [← hW4]
    clear hW4
    go_wp2_with fail
    refine (fnew_r w W4 r gp gk R H4.out).mono ?_
    rintro e w5 ⟨f, gm, rfl, h5⟩
    have H5 : Hid (Rt w w5 r gp gk f gm R (fun _ => [])) := h5
    clear h5 H4
    go_wp2_with fail
    refine (fround_r w w5 r gp gk f gm R _ H5.out).mono ?_
    rintro e w6 ⟨rfl, h6⟩
    obtain ⟨G, hG⟩ : ∃ G, G = R.roundG (fun _ => []) := ⟨_, rfl⟩
    rw [← hG] at h6
    have H6 : Hid (Rt w w6 r gp gk f gm R G) := h6
    clear h6 H5 hG
    cases hlv : R.lives a2
    · have HKN : Hid (R.kn a2 = none) := by
        show R.kn a2 = none
        unfold Rg.lives at hlv
        cases hq : R.kn a2 with
        | none => rfl
        | some y => rw [hq] at hlv; simp at hlv
      clear hlv
      go_wp2_with fail
      refine (path_none r gp gk f gm R G a2 a3 _ H6.out.rn.ring H6.out.fg HKN.out).mono ?_
      rintro e w7 ⟨rfl, b7⟩
      have H7 : Hid (Below w.heap.size w w7) := (H6.out.below b7).rn.bel
      clear b7
      go_wp2_with (go_at_call 10; refine (awake12_any _).mono ?_; rintro e w8 ⟨rfl, b8⟩)
      go_ret
      exact ⟨rfl, H7.out.trans (b8.mono H7.out.size)⟩
    · have HLV : Hid (R.lives a2 = true) := hlv
      clear hlv
      go_wp2_with fail
      refine (path_r r gp gk f gm R G a2 a3 _ H6.out.rn.ring H6.out.fg H6.out.rn.inv HX3.out HLV.out).mono ?_
      rintro e w7 ⟨h7, b7⟩
      have H7 : Hid (Rt w w7 r gp gk f gm R G) := H6.out.below b7
      clear b7 H6
      rcases h7 with ⟨k, pa, pc, hk, hs, rfl, hin, _⟩ | ⟨_, rfl⟩
      · have HW : Hid (R.stops G a3 a2 k ∧ InIn w7 pa (k + 1) (R.way G a3 a2 (k + 1))) := ⟨hs, hin⟩
        clear hs hin
        obtain ⟨m, hm⟩ : ∃ m, m = k + 1 := ⟨_, rfl⟩
        rw [← hm] at HW ⊢
        have hm0 : 1 ≤ m := by omega
        have hm65 : m ≤ 65 := by omega
        have HMK : Hid (m = k + 1) := hm
        clear hm
        go_wp2
        go_loopg [50] m (fun kx s wr => ∃ i : Nat, s = .int .i64 i ∧ i ≤ m ∧ kx = m - i ∧ Hid (Below w7.heap.size w7 wr))
        case atStart => exact ⟨0, rfl, Nat.zero_le _, rfl, (Below.refl _ _ : Below w7.heap.size w7 w7)⟩
        case round =>
          obtain ⟨i, rfl, hi, rfl, HB⟩ := hrel
          by_cases hlt : i < m
          · have hiI : (0 : Int) ≤ (i : Int) ∧ (i : Int) < (m : Int) := by omega
            obtain ⟨lb, lo, hlb, hll2, _, hlc⟩ := (HW.out.2.below (Nat.le_refl _) HB.out).one (v := Value.int .i64) (fun _ => rfl) (i := i) hlt
            rw [way_getD R G a3 a2 hlt] at hlc
            obtain ⟨y, hy⟩ : ∃ y, y = R.hopTo G a3 a2 i := ⟨_, rfl⟩
            rw [← hy] at hlc
            have HY : Hid (y = R.hopTo G a3 a2 i ∧ R.lives y = true) := ⟨hy, by rw [hy]; exact hop_lives H7.out.rn.inv HX3.out HLV.out i⟩
            obtain ⟨z, hz⟩ : ∃ z, z = R.hopTo G a3 a2 (i + 1) := ⟨_, rfl⟩
            have HZ : Hid (R.nextTo G a3 y = z ∧ z = R.hopTo G a3 a2 (i + 1)) := ⟨by rw [hz, HY.out.1]; rfl, hz⟩
            clear hy hz
            by_cases hl1 : i + 1 < m
            · have hl1I : (i : Int) + 1 < (m : Int) := by omega
              obtain ⟨lb2, lo2, hlb2, _, _, hlc2⟩ := (HW.out.2.below (Nat.le_refl _) HB.out).one (v := Value.int .i64) (fun _ => rfl) (i := i + 1) hl1
              rw [way_getD R G a3 a2 hl1, ← HZ.out.2] at hlc2
              subst hlb
              simp at hlb2
              obtain ⟨rfl, rfl⟩ := hlb2
              have hadd : IntKind.i64.wrap ((i : Int) + 1) = ((i + 1 : Nat) : Int) := by simp [IntKind.wrap, IntKind.bits, IntKind.signed]; omega
              have nzz : (z != z) = false := by simp
              go_wp2_with fail
              refine (next_some r gp gk f gm R G y a3 _ (H7.out.rn.ring.below HB.out) (H7.out.fg.below HB.out) H7.out.rn.inv HY.out.2).mono ?_
              rintro e w8 ⟨rfl, b8⟩
              rw [HZ.out.1]
              have g1 := cell_grown hlc b8
              have g2 := cell_grown hlc2 b8
              have gl := cell_block g1
              have H8 : Hid (Below w7.heap.size w7 w8) := HB.out.trans (b8.mono HB.out.size)
              clear b8 hlc hlc2 hll2
              go_wp2
              go_roundg (m - (i + 1))
              case measure => omega
              case rel => exact ⟨i + 1, by go_num, by omega, rfl, H8⟩
            · have hl1I : ¬ (i : Int) + 1 < (m : Int) := by omega
              have hik : i = k := by have := HMK.out; omega
              subst hlb
              have hzy : z = y := by rw [HZ.out.2, HY.out.1, hik]; exact HW.out.1.2
              have nyy : (y != y) = false := by simp
              have HZY : Hid (z = y) := hzy
              clear hzy hik
              go_wp2_with fail
              refine (next_some r gp gk f gm R G y a3 _ (H7.out.rn.ring.below HB.out) (H7.out.fg.below HB.out) H7.out.rn.inv HY.out.2).mono ?_
              rintro e w8 ⟨rfl, b8⟩
              rw [HZ.out.1, HZY.out]
              have g1 := cell_grown hlc b8
              have gl := cell_block g1
              have H8 : Hid (Below w7.heap.size w7 w8) := HB.out.trans (b8.mono HB.out.size)
              clear b8 hlc hll2
              go_wp2
              go_roundg (m - (i + 1))
              case measure => omega
              case rel => exact ⟨i + 1, by go_num, by omega, rfl, H8⟩
          · obtain rfl : i = m := by omega
            go_wp2_with fail
            refine (awake12_any _).mono ?_
            rintro e w8 ⟨rfl, b8⟩
            have H8 : Hid (Below w7.heap.size w7 w8) := HB.out.trans (b8.mono HB.out.size)
            obtain ⟨lb, lo, rfl, hll2, _, hlc⟩ := (HW.out.2.below (Nat.le_refl _) H8.out).one (v := Value.int .i64) (fun _ => rfl) (i := 0) (by omega)
            rw [way_getD R G a3 a2 (by omega), Nat.add_zero] at hlc
            have hlc' : w8.cell? ⟨lb, lo, none⟩ = some (.int .i64 a2) := hlc
            have e22 : (a2 == a2) = true := by simp
            have hge : ¬ ((i : Int) < 1) := by omega
            have hge2 : (1 : Int) ≤ (i : Int) := by omega
            have hle : (i : Int) ≤ 65 := by omega
            clear hlc b8
            go_wp2
            go_ret
            exact ⟨by simp [*], H7.out.rn.bel.trans (H8.out.mono H7.out.rn.bel.size)⟩
      · go_wp2_with (go_at_call 10; refine (awake12_any _).mono ?_; rintro e w8 ⟨rfl, b8⟩)
        go_ret
        exact ⟨rfl, H7.out.rn.bel.trans (b8.mono H7.out.rn.bel.size)⟩

/-! ### The row's step -/
set_option maxRecDepth 100000 in
theorem lifted (os : Os) (started : os.Started) (H : Type) (enc : TypeId × Value → H) :
    ReturnsInHanded {} Tryz.checked os 7 .any (fun w args => (Rows.routeStepsSpec.pre enc Tryz.prog Tryz.f7 [] false w args ∧ laidMetH Tryz.prog Rows.routeStepsRow.laid w) ∧ sizedMet enc Tryz.prog Tryz.f7 (OpenSpec.ofChange Rows.routeStepsSpec) false w args) (Rows.routeStepsSpec.post enc Tryz.prog Tryz.f7 false true false false) := by
  refine returnsInHanded_of_change_and (C := Tryz.checked) (X := fun w _ => laidMetH Tryz.prog Rows.routeStepsRow.laid w) (fun _ _ _ hh h => h.of_heap hh) own started (by kernel_rfl) Tryz.func7
    (ChangeSpec.witness_at (enc := enc) (C := Tryz.checked) (os := os) (X := fun w _ => laidMetH Tryz.prog Rows.routeStepsRow.laid w) false ({ World.holding Tryz.prog os ⟨#[], #[], []⟩ with heap := (World.holding Tryz.prog os ⟨#[], #[], []⟩).heap.modify 0 fun | .cells _ t frozen => .cells #[.iface 160 (.agg #[.pointer (some ⟨1, 44, none⟩)])] t frozen | o => o }) #[.slice none 0 0, .slice none 0 0, .int .i64 0, .int .u64 0] 8 rfl (by kernel_rfl) (by kernel_rfl) (by kernel_rfl) (by kernel_rfl) (by kernel_rfl) (laidMetH_of_parts (laidMet_nil _ _) (by kernel_rfl))) ?_
  intro W base args ds gs before hval0 hW _ _ hL _
  have hval : ∀ (j : Nat) t v, Tryz.f7.params[j]? = some t → args[j]? = some v → Value.okWide Tryz.prog W .any base t v := hval0
  have hW' := hW
  obtain ⟨p, q, hA0, hV, rfl, hfz, hnd⟩ := hW
  have hA : DataW.TrodAll enc Tryz.prog W 0 (fun _ => true) true Tryz.f7.params.toList args.toList ds p := hA0
  rw [Tryz.params7] at hA hval
  obtain ⟨v0, vs0, d0, ds0, p0, q0, hargs, rfl, rfl, h0, r0⟩ := trodAll_cons hA
  obtain ⟨v1, vs1, d1, ds1, p1, q1, rfl, rfl, rfl, h1, r1⟩ := trodAll_cons r0
  obtain ⟨v2, vs2, d2, ds2, p2, q2, rfl, rfl, rfl, h2, r2⟩ := trodAll_cons r1
  obtain ⟨v3, vs3, d3, ds3, p3, q3, rfl, rfl, rfl, h3, r3⟩ := trodAll_cons r2
  obtain ⟨rfl, rfl, rfl⟩ := trodAll_nil r3
  obtain rfl : args = #[v0, v1, v2, v3] := by cases args; simp_all
  obtain ⟨rfl, rfl⟩ := trodVars_none hV
  obtain ⟨a0, len0, cap0, rfl⟩ := okWide_slice Tryz.underlying22 (hval 0 22 v0 rfl rfl)
  have k0 := h0
  have lt0 : ∀ x ∈ p0, x.block < W.heap.size := by obtain ⟨m, hm⟩ := k0; exact DataW.trod_lt m _ _ _ hm
  have c0 : len0 ≤ cap0 := by
    obtain ⟨fuel, hf⟩ := h0
    exact incap_of Tryz.underlying22 hf
  obtain ⟨t0, w0⟩ : ∃ ts, InRow 1 encU Go.Proofs.YtgiiadjocfnhlabGreatDoor.u64 0 W a0 len0 ts := by
    obtain ⟨fuel, hf⟩ := h0
    exact inrow_of 1 encU Go.Proofs.YtgiiadjocfnhlabGreatDoor.u64 0 22 26 Tryz.underlying22 cellsU1 (by omega) lenU (fun n cs x => uid_of n cs x) hf
  obtain ⟨a1, len1, cap1, rfl⟩ := okWide_slice Tryz.underlying23 (hval 1 23 v1 rfl rfl)
  have k1 := h1
  have lt1 : ∀ x ∈ p1, x.block < W.heap.size := by obtain ⟨m, hm⟩ := k1; exact DataW.trod_lt m _ _ _ hm
  have c1 : len1 ≤ cap1 := by
    obtain ⟨fuel, hf⟩ := h1
    exact incap_of Tryz.underlying23 hf
  obtain ⟨t1, w1⟩ : ∃ ts, InRow 4 Ac10.cells Ac10.ok ac100 W a1 len1 ts := by
    obtain ⟨fuel, hf⟩ := h1
    exact inrow_of 4 Ac10.cells Ac10.ok ac100 23 50 Tryz.underlying23 cellsAc10 (by omega) lenAc10 (fun n cs x => ac10_of n cs x) hf
  obtain ⟨a2, rfl, rfl, rfl, w2⟩ := open_int Tryz.underlying3 (hval 2 3 v2 rfl rfl) h2
  obtain ⟨a3, rfl, rfl, rfl, w3⟩ := open_int Tryz.underlying26 (hval 3 26 v3 rfl rfl) h3
  clear hA0 hval0
  have hE := handle_of_laid hL
  refine (walk a0 len0 cap0 t0 a1 len1 cap1 t1 a2 a3 W hE w0 c0 w1 c1 w2 w3).mono fun e W' ⟨he, bel⟩ => ?_
  subst he
  exact ⟨_, rfl, _, _, _, [], _, [], hW', trodAll_mk1 (shut_bool Tryz.underlying4 _), (trodAll_cons_mk (Below.trod laidOut (by kernel_rfl) (of_decide_eq_true (by kernel_rfl)) k0 bel lt0) (trodAll_cons_mk (Below.trod laidOut (by kernel_rfl) (of_decide_eq_true (by kernel_rfl)) k1 bel lt1) (trodAll_cons_mk (shut_int Tryz.underlying3 w2) (trodAll_cons_mk (shut_int Tryz.underlying26 w3) trodAll_mk0)))), rfl, bel.frame _, fun h => by cases h⟩

theorem over : Rows.routeStepsRow.holds Tryz.pinned (OpenSpec.ofChange Rows.routeStepsSpec) :=
  OpenClaim.holds_of_wide 7 Tryz.f7 rfl rfl rfl rfl rfl rfl rfl ⟨rfl, rfl, rfl, rfl, rfl⟩ rfl rfl rfl rfl rfl (by kernel_rfl) Tryz.func7 (by kernel_rfl)
    (of_decide_eq_true (by kernel_rfl)) (by unfold Func.isWrapper; first | (rw [if_pos (by decide +kernel)]; kernel_rfl) | (rw [if_neg (by decide +kernel)]; exact ⟨rfl, rfl⟩))
    (fun os started H enc _ => lifted os started H enc)

theorem card : Rows.RouteStepsCardSaid :=
  Claim7.holds_tied_plain_at .later [] [.handle] true (true, "38ed07e560a91184882e99392f489255bb7191b244fb549ebb9b54e29bf314a8") true
    over (fun _ h => by cases h) (by kernel_rfl) (fun _ h => by cases h) routeSteps_row_tie rfl ⟨rfl, rfl⟩ (by kernel_rfl) rfl
    (fun f fn hf hfn => by
      obtain rfl : f = 7 := Option.some.inj ((show Tryz.prog.funcNamed "wigwag/wigwaglaw12.RouteSteps" = some 7 by kernel_rfl).symm.trans hf) |>.symm
      obtain rfl : fn = Tryz.f7 := (Option.some.inj (Tryz.func7.symm.trans hfn)).symm
      exact ⟨by kernel_rfl, fun j t ht => by
        rw [Tryz.params7] at ht
        have hall : ∀ t ∈ ([22, 23, 3, 26] : List TypeId), Tryz.prog.wantsStandIn t = false := by
          intro t ht
          simp only [List.mem_cons, List.not_mem_nil, or_false] at ht
          rcases ht with rfl | rfl | rfl | rfl <;> kernel_rfl
        exact hall t (by simpa using List.mem_of_getElem? (l := ([22, 23, 3, 26] : List TypeId)) (i := j) (by simpa using ht))⟩)
    (by kernel_rfl)

end Go.Proofs.YtgiiadjocfnhlabGreatDoor.routeSteps

namespace Go.Proofs.YtgiiadjocfnhlabGreatDoor
/-- Proved: for every list of places, every list of calls, every address and every place: behind any 25 calls each step of a way is what Next says, and the last one says itself; errors.errorType being laid as the program's text lays it (the card's tie, over the pruned copy). -/
theorem routeSteps_holds : Rows.RouteStepsCardSaid := routeSteps.card
#print axioms routeSteps_holds
end Go.Proofs.YtgiiadjocfnhlabGreatDoor
