/- Proved: for every list of places, every list of calls and every list of looks: so many rounds behind any 40 calls all is as it should be, and it stays so whoever of any 40 looks, in whatever order; errors.errorType being laid as the program's text lays it (the card's tie, over the pruned copy).
  The frame is the guide's own shell (proof-skeleton.mjs) at this function; the walk and all ahead of it are mine. -/
import Derived.Test.YtgljbbjdnmfphaaGreatDoorRows
import Derived.Test.YtgljbbjdnmfphaaGreatDoorChAct
import Derived.Test.YtgljbbjdnmfphaaGreatDoorChAll
import Derived.Test.YtgljbbjdnmfphaaGreatDoorJoinPeSame
import Derived.Test.YtgljbbjdnmfphaaGreatDoorJoinRfS
import Derived.Deep.CutBlock
import Derived.Deep.DeepCutAuto
import Derived.Deep.LoopGhost
import Derived.WalkKit
import Derived.WalkLawsBesides
import Derived.ProofKit
import Derived.OpenShut
import Derived.ChangeSame
import Derived.ChangeVars
import Derived.JoinedOf
import Derived.RowKit
import Derived.RowKitTokens
import Derived.LaidLaws
import Derived.LaidHandle
import Derived.Stop.Joined
import Derived.SevenTiedAt
import Derived.Test.YtgljbbjdnmfphaaGreatDoorTie
import Derived.Test.YtgljbbjdnmfphaaGreatDoorCards
import Derived.ShutString
import Derived.ChangeOld
import Derived.Below
namespace Go.Proofs.YtgljbbjdnmfphaaGreatDoor.idealStays
open Go.ChangeShapes Go.WideShapes Go.ChangeAt Go.RowKit
open Go.ChangeMaps (open_string shut_string)
set_option linter.unusedVariables false

theorem own : ownKnob Tryz.prog.godebug = none := by kernel_rfl
theorem laidOut : laidOutB Tryz.prog = true := by kernel_rfl


theorem et : Tryz.prog.globalNamed "errors.errorType" = some 0 := by kernel_rfl
theorem rt : (Tryz.prog.cutTypes.find? (·.1 == "internal/reflectlite.rtype")).map (·.2) = some 177 := by kernel_rfl
theorem oneRow : ((List.range 238).filter fun t => Tryz.prog.rowNamed t [101, 114, 114, 111, 114]) = [65] := by kernel_rfl
theorem typesSize : Tryz.prog.types.size = 238 := by kernel_rfl
/-- What the tied variable gives a walk: its one cell. -/
theorem handle_of_laid {W : World} (h : laidMetH Tryz.prog Rows.idealStaysRow.laid W) : ErrType W := by
  have h' : laidMet Tryz.prog [] W ∧ handlesMet Tryz.prog Rows.idealStaysRow.laid W := h
  obtain ⟨name, u, ty, e1, e2, e3, e4, e5⟩ := h'.2 _ (List.mem_singleton.2 rfl)
  have en : name = [101, 114, 114, 111, 114] := (Option.some.inj e1).symm
  subst en
  obtain rfl := Option.some.inj (rt.symm.trans e2)
  have hm : ty ∈ (List.range 238).filter fun t => Tryz.prog.rowNamed t [101, 114, 114, 111, 114] := List.mem_filter.2 ⟨List.mem_range.2 (by rw [← typesSize]; exact e3), e4⟩
  rw [oneRow] at hm
  obtain rfl := List.mem_singleton.1 hm
  have hh : typeHandle Tryz.prog 65 = .pointer (some ⟨1, 65, none⟩) := by kernel_rfl
  rw [hh] at e5
  unfold ErrType
  simpa using World.var?_cell et e5 0

/-! ### STEP 1: the walk -/
set_option maxRecDepth 100000 in
set_option maxHeartbeats 2000000 in
theorem walk (a0 : Option Addr) (len0 cap0 : Nat) (t0 : List Int) (a1 : Option Addr) (len1 cap1 : Nat) (t1 : List Ac10) (a2 : Option Addr) (len2 cap2 : Nat) (t2 : List Int) (w : World) (hE : ErrType w) (w0 : InRow 1 encU Go.Proofs.YtgljbbjdnmfphaaGreatDoor.u64 0 w a0 len0 t0) (c0 : len0 ≤ cap0) (w1 : InRow 4 Ac10.cells Ac10.ok ac100 w a1 len1 t1) (c1 : len1 ≤ cap1) (w2 : InRow 1 encI i64 0 w a2 len2 t2) (c2 : len2 ≤ cap2) :
    Calls Tryz.prog 5 #[.slice a0 len0 cap0, .slice a1 len1 cap1, .slice a2 len2 cap2] w fun e w' => e = .returned (.bool true) ∧ Below w.heap.size w w' := by
  have HK : Hid (InIn w a2 len2 t2) := w2
  have hm2 := w2.2.1
  have HMd : Hid _ := made_r a0 len0 cap0 t0 a1 len1 cap1 t1 40 w w0 c0 w1 hE (by omega)
  clear w0 w1 w2 c0 c1 c2 hE
  go_enter Tryz.func5, Tryz.ntmps5
  go_wp2_with fail
  refine Calls.mono HMd.out ?_
  clear HMd
  rintro e w3 h3
  rcases h3 with ⟨x0, x1, x2, x3, rfl, hsl, b3⟩ | ⟨r, gp, gk, R, x0, x1, x2, x3, rfl, hsl, hrn, _⟩
  · obtain ⟨⟨p0, p1, p2, rfl⟩, ⟨p3, p4, p5, rfl⟩, ⟨p6, p7, p8, rfl⟩, ⟨p9, p10, p11, rfl⟩⟩ := hsl
    obtain ⟨W4, hW4⟩ : ∃ W4, W4 = w3.alloc (.cells #[.slice p0 p1 p2, .slice p3 p4 p5, .slice p6 p7 p8, .slice p9 p10 p11] 33) := ⟨_, rfl⟩
    have B4 : Hid (Below w.heap.size w W4) := by rw [hW4]; exact b3.trans ((below_one _ _).mono b3.size)
    clear b3
    go_upto_region 2 with fail
    rw [← hW4]
    clear hW4
    go_wp2_with fail
    refine (awake11_any _).mono ?_
    rintro e w5 ⟨rfl, b5⟩
    go_wp2
    go_ret
    exact ⟨rfl, B4.out.trans (b5.mono B4.out.size)⟩
  · obtain ⟨⟨p0, p1, p2, rfl⟩, ⟨p3, p4, p5, rfl⟩, ⟨p6, p7, p8, rfl⟩, ⟨p9, p10, p11, rfl⟩⟩ := hsl
    obtain ⟨W4, hW4⟩ : ∃ W4, W4 = w3.alloc (.cells #[.slice p0 p1 p2, .slice p3 p4 p5, .slice p6 p7 p8, .slice p9 p10 p11] 33) := ⟨_, rfl⟩
    have H4 : Hid (Rn w W4 r gp gk R) := by rw [hW4]; exact hrn.below (below_one _ _)
    clear hrn
    go_upto_region 2 with fail
    rw [← hW4]
    clear hW4
    have hll : R.live.length ≤ 32 := liveTo_len R 32
    obtain ⟨n, hn⟩ : ∃ n, n = R.live.length := ⟨_, rfl⟩
    rw [← hn] at hll
    have HN : Hid (n = R.live.length) := hn
    clear hn
    go_wp2
    go_loopg [10] (4 * n + 8) (fun kx s wr => ∃ j : Nat, s = .int .i64 j ∧ j ≤ 4 * n + 8 ∧ kx = 4 * n + 8 - j ∧ Hid (Rn w wr r gp gk (R.rounds j)))
    case atStart => exact ⟨0, rfl, Nat.zero_le _, rfl, (H4.out : Rn w W4 r gp gk (R.rounds 0))⟩
    case round =>
      obtain ⟨j, rfl, hj, rfl, HB⟩ := hrel
      have HLn : Hid ((R.rounds j).live.length = n) := by show (R.rounds j).live.length = n; rw [(alike_rounds R j).live]; exact HN.out.symm
      by_cases hjl : j < 4 * n + 8
      · have hjl' : (j : Int) < 4 * (n : Int) + 8 := by omega
        go_wp2_with fail
        refine (live_r r gp gk (R.rounds j) _ HB.out.ring).mono ?_
        rintro e w5 ⟨la, lc, rfl, _, _, b5⟩
        rw [HLn.out]
        have H5 : Hid (Rn w w5 r gp gk (R.rounds j)) := HB.out.below b5
        clear b5
        go_wp2_with (first
          | (go_at_call 26; refine (rounds_r n _ (by omega)).mono ?_; rintro e w' ⟨rfl, rfl⟩)
          | (go_at_call 27; refine (round_r r gp gk (R.rounds j) _ H5.out.ring).mono ?_; rintro e w6 ⟨rfl, h6, k6⟩))
        go_roundg (4 * n + 8 - (j + 1))
        case measure => omega
        case rel => exact ⟨j + 1, by go_num, by omega, rfl, (H5.out.step h6 H5.out.inv.round k6 : Rn w w6 r gp gk (R.rounds (j + 1)))⟩
      · obtain rfl : j = 4 * n + 8 := by omega
        have hjl' : ¬ ((4 * n + 8 : Nat) : Int) < 4 * (n : Int) + 8 := by omega
        have hrg := H4.out.inv.calm (m := 4 * n + 8) (by have := HN.out; omega)
        have HRG : Hid (Rgt 3 (R.rounds (4 * n + 8))) := hrg
        clear hrg
        generalize R.rounds (4 * n + 8) = R6 at HB HRG HLn
        obtain ⟨w6, hw6⟩ : ∃ w6, w6 = wr := ⟨_, rfl⟩
        rw [← hw6] at HB ⊢
        clear hw6
        go_wp2_with fail
        refine (live_r r gp gk R6 _ HB.out.ring).mono ?_
        rintro e w7 ⟨la, lc, rfl, _, _, b7⟩
        rw [HLn.out]
        have H7 : Hid (∃ R7, Rn w w7 r gp gk R7 ∧ Rgt 3 R7) := ⟨R6, HB.out.below b7, HRG.out⟩
        clear b7 HB HRG HLn H4 HN
        go_wp2_with fail
        refine (rounds_r n _ (by omega)).mono ?_
        rintro e w' ⟨rfl, hw'⟩
        subst w'
        go_wp2
        go_loopg [11] len2 (fun kx s wr => ∃ i : Nat, s = .int .i64 i ∧ i ≤ len2 ∧ i ≤ 40 ∧ kx = len2 - i ∧ Hid (∃ R7, Rn w wr r gp gk R7 ∧ Rgt 3 R7))
        case atStart => exact ⟨0, rfl, Nat.zero_le _, by omega, rfl, H7⟩
        case round =>
          obtain ⟨i, rfl, hi2, hi40, rfl, HQ⟩ := hrel
          clear H7
          obtain ⟨R7, hR7⟩ := HQ.out
          have H7 : Hid (Rn w wr r gp gk R7 ∧ Rgt 3 R7) := hR7
          clear hR7 HQ
          by_cases hlt : i < len2 ∧ i < 40
          · obtain ⟨hlt, h40⟩ := hlt
            obtain ⟨b, o, hab, hbb, hk, hc⟩ := (HK.out.below (Nat.le_refl _) H7.out.1.bel).one (v := Value.int .i64) (fun _ => rfl) (i := i) hlt
            subst hab
            obtain ⟨y, hy⟩ : ∃ y, y = t2.getD i 0 := ⟨_, rfl⟩
            rw [← hy] at hc hk
            have HKy : Hid (i64 y) := hk
            clear hy hk
            go_wp2_with fail
            refine (stab_r r gp gk R7 y _ H7.out.1.ring HKy.out).mono ?_
            rintro e w8 ⟨rfl, h8, k8⟩
            have H8 : Hid (Rn w w8 r gp gk (R7.stab y) ∧ Rgt 3 (R7.stab y)) := ⟨H7.out.1.step h8 (H7.out.1.inv.stab y) k8, H7.out.2.stab y⟩
            clear h8 k8 hc hbb
            go_wp2_with fail
            refine (is_r r gp gk (R7.stab y) _ H8.out.1.ring H8.out.1.inv).mono ?_
            rintro e w9 ⟨C, hC, rfl, b9⟩
            rw [H8.out.2.is hC _ (Nat.le_refl _)]
            have H9 : Hid (∃ R7, Rn w w9 r gp gk R7 ∧ Rgt 3 R7) := ⟨_, H8.out.1.below b9, H8.out.2⟩
            clear b9 hC
            go_wp2
            go_roundg (len2 - (i + 1))
            case measure => omega
            case rel => exact ⟨i + 1, by go_num, by omega, by omega, rfl, H9⟩
          · have hq2 : i < len2 → ¬ i < 40 := fun h1 h2 => hlt ⟨h1, h2⟩
            clear hlt
            obtain ⟨w8, hw8⟩ : ∃ w8, w8 = wr := ⟨_, rfl⟩
            rw [← hw8] at H7 ⊢
            clear hw8
            by_cases q3 : i < len2
            all_goals
              first
                | (have q5 : ¬ i < 40 := hq2 q3
                   clear hq2
                   go_wp2_with fail)
                | (clear hq2
                   go_wp2_with fail)
              refine (awake11_any _).mono ?_
              rintro e w9 ⟨rfl, b9⟩
              have H9 : Hid (Rn w w9 r gp gk R7) := H7.out.1.below b9
              clear b9
              go_wp2_with fail
              refine (is_r r gp gk R7 _ H9.out.ring H9.out.inv).mono ?_
              rintro e w10 ⟨C, hC, rfl, b10⟩
              rw [H7.out.2.is hC _ (Nat.le_refl _)]
              go_wp2
              go_ret
              exact ⟨rfl, H9.out.bel.trans (b10.mono H9.out.bel.size)⟩

/-! ### The row's step -/
set_option maxRecDepth 100000 in
theorem lifted (os : Os) (started : os.Started) (H : Type) (enc : TypeId × Value → H) :
    ReturnsInHanded {} Tryz.checked os 5 .any (fun w args => (Rows.idealStaysSpec.pre enc Tryz.prog Tryz.f5 [] false w args ∧ laidMetH Tryz.prog Rows.idealStaysRow.laid w) ∧ sizedMet enc Tryz.prog Tryz.f5 (OpenSpec.ofChange Rows.idealStaysSpec) false w args) (Rows.idealStaysSpec.post enc Tryz.prog Tryz.f5 false true false false) := by
  refine returnsInHanded_of_change_and (C := Tryz.checked) (X := fun w _ => laidMetH Tryz.prog Rows.idealStaysRow.laid w) (fun _ _ _ hh h => h.of_heap hh) own started (by kernel_rfl) Tryz.func5
    (ChangeSpec.witness_at (enc := enc) (C := Tryz.checked) (os := os) (X := fun w _ => laidMetH Tryz.prog Rows.idealStaysRow.laid w) false ({ World.holding Tryz.prog os ⟨#[], #[], []⟩ with heap := (World.holding Tryz.prog os ⟨#[], #[], []⟩).heap.modify 0 fun | .cells _ t frozen => .cells #[.iface 177 (.agg #[.pointer (some ⟨1, 65, none⟩)])] t frozen | o => o }) #[.slice none 0 0, .slice none 0 0, .slice none 0 0] 8 rfl (by kernel_rfl) (by kernel_rfl) (by kernel_rfl) (by kernel_rfl) (by kernel_rfl) (laidMetH_of_parts (laidMet_nil _ _) (by kernel_rfl))) ?_
  intro W base args ds gs before hval0 hW _ _ hL _
  have hval : ∀ (j : Nat) t v, Tryz.f5.params[j]? = some t → args[j]? = some v → Value.okWide Tryz.prog W .any base t v := hval0
  have hW' := hW
  obtain ⟨p, q, hA0, hV, rfl, hfz, hnd⟩ := hW
  have hA : DataW.TrodAll enc Tryz.prog W 0 (fun _ => true) true Tryz.f5.params.toList args.toList ds p := hA0
  rw [Tryz.params5] at hA hval
  obtain ⟨v0, vs0, d0, ds0, p0, q0, hargs, rfl, rfl, h0, r0⟩ := trodAll_cons hA
  obtain ⟨v1, vs1, d1, ds1, p1, q1, rfl, rfl, rfl, h1, r1⟩ := trodAll_cons r0
  obtain ⟨v2, vs2, d2, ds2, p2, q2, rfl, rfl, rfl, h2, r2⟩ := trodAll_cons r1
  obtain ⟨rfl, rfl, rfl⟩ := trodAll_nil r2
  obtain rfl : args = #[v0, v1, v2] := by cases args; simp_all
  obtain ⟨rfl, rfl⟩ := trodVars_none hV
  obtain ⟨a0, len0, cap0, rfl⟩ := okWide_slice Tryz.underlying22 (hval 0 22 v0 rfl rfl)
  have k0 := h0
  have lt0 : ∀ x ∈ p0, x.block < W.heap.size := by obtain ⟨m, hm⟩ := k0; exact DataW.trod_lt m _ _ _ hm
  have c0 : len0 ≤ cap0 := by
    obtain ⟨fuel, hf⟩ := h0
    exact incap_of Tryz.underlying22 hf
  obtain ⟨t0, w0⟩ : ∃ ts, InRow 1 encU Go.Proofs.YtgljbbjdnmfphaaGreatDoor.u64 0 W a0 len0 ts := by
    obtain ⟨fuel, hf⟩ := h0
    exact inrow_of 1 encU Go.Proofs.YtgljbbjdnmfphaaGreatDoor.u64 0 22 25 Tryz.underlying22 cellsU1 (by omega) lenU (fun n cs x => uid_of n cs x) hf
  obtain ⟨a1, len1, cap1, rfl⟩ := okWide_slice Tryz.underlying23 (hval 1 23 v1 rfl rfl)
  have k1 := h1
  have lt1 : ∀ x ∈ p1, x.block < W.heap.size := by obtain ⟨m, hm⟩ := k1; exact DataW.trod_lt m _ _ _ hm
  have c1 : len1 ≤ cap1 := by
    obtain ⟨fuel, hf⟩ := h1
    exact incap_of Tryz.underlying23 hf
  obtain ⟨t1, w1⟩ : ∃ ts, InRow 4 Ac10.cells Ac10.ok ac100 W a1 len1 ts := by
    obtain ⟨fuel, hf⟩ := h1
    exact inrow_of 4 Ac10.cells Ac10.ok ac100 23 76 Tryz.underlying23 cellsAc10 (by omega) lenAc10 (fun n cs x => ac10_of n cs x) hf
  obtain ⟨a2, len2, cap2, rfl⟩ := okWide_slice Tryz.underlying37 (hval 2 37 v2 rfl rfl)
  have k2 := h2
  have lt2 : ∀ x ∈ p2, x.block < W.heap.size := by obtain ⟨m, hm⟩ := k2; exact DataW.trod_lt m _ _ _ hm
  have c2 : len2 ≤ cap2 := by
    obtain ⟨fuel, hf⟩ := h2
    exact incap_of Tryz.underlying37 hf
  obtain ⟨t2, w2⟩ : ∃ ts, InRow 1 encI i64 0 W a2 len2 ts := by
    obtain ⟨fuel, hf⟩ := h2
    exact inrow_of 1 encI i64 0 37 3 Tryz.underlying37 cellsI1 (by omega) lenI (fun n cs x => int_of n cs x) hf
  clear hA0 hval0
  have hE := handle_of_laid hL
  refine (walk a0 len0 cap0 t0 a1 len1 cap1 t1 a2 len2 cap2 t2 W hE w0 c0 w1 c1 w2 c2).mono fun e W' ⟨he, bel⟩ => ?_
  subst he
  exact ⟨_, rfl, _, _, _, [], _, [], hW', trodAll_mk1 (shut_bool Tryz.underlying4 _), (trodAll_cons_mk (Below.trod laidOut (by kernel_rfl) (of_decide_eq_true (by kernel_rfl)) k0 bel lt0) (trodAll_cons_mk (Below.trod laidOut (by kernel_rfl) (of_decide_eq_true (by kernel_rfl)) k1 bel lt1) (trodAll_cons_mk (Below.trod laidOut (by kernel_rfl) (of_decide_eq_true (by kernel_rfl)) k2 bel lt2) trodAll_mk0))), rfl, bel.frame _, fun h => by cases h⟩

theorem over : Rows.idealStaysRow.holds Tryz.pinned (OpenSpec.ofChange Rows.idealStaysSpec) :=
  OpenClaim.holds_of_wide 5 Tryz.f5 rfl rfl rfl rfl rfl rfl rfl ⟨rfl, rfl, rfl, rfl, rfl⟩ rfl rfl rfl rfl rfl (by kernel_rfl) Tryz.func5 (by kernel_rfl)
    (of_decide_eq_true (by kernel_rfl)) (by unfold Func.isWrapper; first | (rw [if_pos (by decide +kernel)]; kernel_rfl) | (rw [if_neg (by decide +kernel)]; exact ⟨rfl, rfl⟩))
    (fun os started H enc _ => lifted os started H enc)

theorem card : Rows.IdealStaysCardSaid :=
  Claim7.holds_tied_plain_at .later [] [.handle] true (true, "ebfe1cc5ed85a081e89d6d1858cf424938ec32e36ea148b7a3cf8eb7e3215188") true
    over (fun _ h => by cases h) (by kernel_rfl) (fun _ h => by cases h) idealStays_row_tie rfl ⟨rfl, rfl⟩ (by kernel_rfl) rfl
    (fun f fn hf hfn => by
      obtain rfl : f = 5 := Option.some.inj ((show Tryz.prog.funcNamed "wigwag/wigwaglaw11.IdealStays" = some 5 by kernel_rfl).symm.trans hf) |>.symm
      obtain rfl : fn = Tryz.f5 := (Option.some.inj (Tryz.func5.symm.trans hfn)).symm
      exact ⟨by kernel_rfl, fun j t ht => by
        rw [Tryz.params5] at ht
        have hall : ∀ t ∈ ([22, 23, 37] : List TypeId), Tryz.prog.wantsStandIn t = false := by
          intro t ht
          simp only [List.mem_cons, List.not_mem_nil, or_false] at ht
          rcases ht with rfl | rfl | rfl <;> kernel_rfl
        exact hall t (by simpa using List.mem_of_getElem? (l := ([22, 23, 37] : List TypeId)) (i := j) (by simpa using ht))⟩)
    (by kernel_rfl)

end Go.Proofs.YtgljbbjdnmfphaaGreatDoor.idealStays

namespace Go.Proofs.YtgljbbjdnmfphaaGreatDoor
/-- Proved: for every list of places, every list of calls and every list of looks: so many rounds behind any 40 calls all is as it should be, and it stays so whoever of any 40 looks, in whatever order; errors.errorType being laid as the program's text lays it (the card's tie, over the pruned copy). -/
theorem idealStays_holds : Rows.IdealStaysCardSaid := idealStays.card
#print axioms idealStays_holds
end Go.Proofs.YtgljbbjdnmfphaaGreatDoor
