/- For every list of places and every list of calls: whatever any 120 calls did, so many rounds later each member knows what it should, and it stays so.
  The frame is the guide's own shell (proof-skeleton.mjs) at this function; the walk and all ahead of it are mine. -/
import Derived.Test.YtkeeolnpbjoigaaRows
import Derived.Test.YtkeeolnpbjoigaaChAct
import Derived.Test.YtkeeolnpbjoigaaChAll
import Derived.Test.YtkeeolnpbjoigaaJoinChOwn
import Derived.Deep.CutBlock
import Derived.Deep.DeepCutAuto
import Derived.Deep.LoopGhost
import Derived.WalkKit
import Derived.WalkLawsBesides
import Derived.ProofKit
import Derived.OpenShut
import Derived.ShutString
import Derived.ChangeOld
import Derived.Below
namespace Go.Proofs.Ytkeeolnpbjoigaa.idealCalm
open Go.ChangeShapes Go.WideShapes Go.ChangeAt Go.RowKit
open Go.ChangeMaps (open_string shut_string)
set_option linter.unusedVariables false

theorem own : ownKnob Try.prog.godebug = none := by kernel_rfl
theorem laidOut : laidOutB Try.prog = true := by kernel_rfl


/-! ### STEP 1: the walk -/
set_option maxRecDepth 100000 in
set_option maxHeartbeats 2000000 in
theorem walk (a0 : Option Addr) (len0 cap0 : Nat) (t0 : List Int) (a1 : Option Addr) (len1 cap1 : Nat) (t1 : List Ac10) (w : World) (w0 : InRow 1 encU Go.Proofs.Ytkeeolnpbjoigaa.u64 0 w a0 len0 t0) (w1 : InRow 4 Ac10.cells Ac10.ok ac100 w a1 len1 t1) :
    Calls Try.prog 3 #[.slice a0 len0 cap0, .slice a1 len1 cap1] w fun e w' => e = .returned (.bool true) ∧ Below w.heap.size w w' := by
  have HI : Hid (IdIn w a0 len0 t0) := w0
  have HT : Hid (AcIn w a1 len1 t1) := w1
  have hm1 := w1.2.1
  clear w0 w1
  go_enter Try.func3, Try.ntmps3
  go_wp2_with fail
  refine (new_any a0 len0 cap0 t0 _ HI.out).mono ?_
  rintro e w2 ⟨h2, b2⟩
  rcases h2 with ⟨c, hc, rfl⟩ | ⟨r, gp, gk, R0, rfl, hr, hrr⟩
  · have B2 : Hid (Below w.heap.size w w2) := b2
    clear b2 hc
    go_wp2_with fail
    refine (awake11_any _).mono ?_
    rintro e w3 ⟨rfl, b3⟩
    have B3 : Hid (Below w.heap.size w w3) := B2.out.trans (b3.mono B2.out.size)
    clear b3
    go_wp2_with fail
    refine (awake11_any _).mono ?_
    rintro e w4 ⟨rfl, b4⟩
    go_wp2
    go_ret
    exact ⟨rfl, B3.out.trans (b4.mono B3.out.size)⟩
  have H2 : Hid (Rn w w2 r gp gk R0) := hr
  clear hr hrr b2
  go_wp2_with fail
  refine (awake11_any _).mono ?_
  rintro e w3 ⟨rfl, b3⟩
  have H3 : Hid (∃ R, Rn w w3 r gp gk R) := ⟨R0, H2.out.below b3⟩
  clear b3 H2
  go_wp2
  go_loopg [7] len1 (fun kx s wr => ∃ k : Nat, s = .int .i64 k ∧ k ≤ len1 ∧ k ≤ 120 ∧ kx = len1 - k ∧ Hid (∃ R, Rn w wr r gp gk R))
  case atStart => exact ⟨0, rfl, Nat.zero_le _, by omega, rfl, H3⟩
  case round =>
    obtain ⟨k, rfl, hk, hk120, rfl, HB⟩ := hrel
    clear H3
    obtain ⟨R, hS⟩ := HB.out
    have HS : Hid (Rn w wr r gp gk R) := hS
    clear hS HB
    by_cases hlt : k < len1 ∧ k < 120
    · obtain ⟨hlt, h120⟩ := hlt
      obtain ⟨b, o, rfl, hbb, hok, x0, x1, x2, x3⟩ := AcIn.at (HT.out.below (Nat.le_refl _) HS.out.bel) hlt
      generalize t1.getD k ac100 = t at hok x0 x1 x2 x3
      obtain ⟨kd, n, via, id⟩ := t
      have HO : Hid (Ac10.ok ⟨kd, n, via, id⟩) := hok
      clear hok
      simp only at x0 x1 x2 x3
      obtain ⟨W3, hW3⟩ : ∃ W3, W3 = wr.alloc (.cells #[.int .i64 kd, .int .i64 n, .int .i64 via, .int .u64 id] 33) := ⟨_, rfl⟩
      have HA : Hid (Rn w W3 r gp gk R) := by rw [hW3]; exact HS.out.below (below_one _ _)
      have y0 : W3.cell? ⟨wr.heap.size, 0, none⟩ = some (.int .i64 kd) := by rw [hW3]; simp
      have y1 : W3.cell? ⟨wr.heap.size, 1, none⟩ = some (.int .i64 n) := by rw [hW3]; simp
      have y2 : W3.cell? ⟨wr.heap.size, 2, none⟩ = some (.int .i64 via) := by rw [hW3]; simp
      have y3 : W3.cell? ⟨wr.heap.size, 3, none⟩ = some (.int .u64 id) := by rw [hW3]; simp
      have zz := cell_block y0
      go_upto_region 8 with fail
      rw [← hW3]
      clear hW3 x0 x1 x2 x3 HS
      by_cases k1 : kd = 1
      · subst k1
        go_wp2_with (go_at_call 6; refine (join_r r gp gk R n id via _ HA.out.ring HO.out.2.2.2 HO.out.2.2.1).mono ?_; rintro e w5 ⟨rfl, h5, k5⟩)
        go_roundg (len1 - (k + 1))
        case measure => omega
        case rel => exact ⟨k + 1, by go_num, by omega, by omega, rfl, ⟨_, HA.out.step h5 (HA.out.inv.join n id via HO.out.2.2.2) k5⟩⟩
      have k1' : (kd == 1) = false := by simpa using k1
      by_cases k2 : kd = 2
      · subst k2
        go_wp2_with (go_at_call 7; refine (fail_r r gp gk R n _ HA.out.ring).mono ?_; rintro e w5 ⟨rfl, h5, k5⟩)
        go_roundg (len1 - (k + 1))
        case measure => omega
        case rel => exact ⟨k + 1, by go_num, by omega, by omega, rfl, ⟨_, HA.out.step h5 (HA.out.inv.fail n) k5⟩⟩
      have k2' : (kd == 2) = false := by simpa using k2
      by_cases k3 : kd = 3
      · subst k3
        go_wp2_with (go_at_call 8; refine (stab_r r gp gk R n _ HA.out.ring HO.out.2.1).mono ?_; rintro e w5 ⟨rfl, h5, k5⟩)
        go_roundg (len1 - (k + 1))
        case measure => omega
        case rel => exact ⟨k + 1, by go_num, by omega, by omega, rfl, ⟨_, HA.out.step h5 (HA.out.inv.stab n) k5⟩⟩
      have k3' : (kd == 3) = false := by simpa using k3
      by_cases k4 : kd = 4
      · subst k4
        go_wp2_with (go_at_call 9; refine (round_r r gp gk R _ HA.out.ring).mono ?_; rintro e w5 ⟨rfl, h5, k5⟩)
        go_roundg (len1 - (k + 1))
        case measure => omega
        case rel => exact ⟨k + 1, by go_num, by omega, by omega, rfl, ⟨_, HA.out.step h5 HA.out.inv.round k5⟩⟩
      have k4' : (kd == 4) = false := by simpa using k4
      go_wp2
      go_roundg (len1 - (k + 1))
      case measure => omega
      case rel => exact ⟨k + 1, by go_num, by omega, by omega, rfl, ⟨_, HA.out⟩⟩
    · have hq2 : k < len1 → ¬ k < 120 := fun h1 h2 => hlt ⟨h1, h2⟩
      clear hlt
      obtain ⟨w4, hw4⟩ : ∃ w4, w4 = wr := ⟨_, rfl⟩
      rw [← hw4] at HS ⊢
      clear hw4
      by_cases q3 : k < len1
      all_goals
        first
          | (have q5 : ¬ k < 120 := hq2 q3
             clear hq2
             go_wp2_with fail)
          | (clear hq2
             go_wp2_with fail)
        refine (live_r r gp gk R _ HS.out.ring).mono ?_
        rintro e w5 ⟨la, lc, rfl, _, _, b5⟩
        have H5 : Hid (Rn w w5 r gp gk R) := HS.out.below b5
        have hll : R.live.length ≤ 32 := liveTo_len R 32
        obtain ⟨n, hn⟩ : ∃ n, n = R.live.length := ⟨_, rfl⟩
        rw [← hn] at hll ⊢
        have HN : Hid (n = R.live.length) := hn
        clear b5 hn
        go_wp2
        go_loopg [10] (4 * n + 8) (fun kx s wr => ∃ j : Nat, s = .int .i64 j ∧ j ≤ 4 * n + 8 ∧ kx = 4 * n + 8 - j ∧ Hid (Rn w wr r gp gk (R.rounds j)))
        case atStart => exact ⟨0, rfl, Nat.zero_le _, rfl, (H5.out : Rn w w5 r gp gk (R.rounds 0))⟩
        case round =>
          obtain ⟨j, rfl, hj, rfl, HB⟩ := hrel
          by_cases hjl : j < 4 * n + 8
          · have hjl' : (j : Int) < 4 * (n : Int) + 8 := by omega
            go_wp2_with (first
              | (go_at_call 11; refine (rounds_r n _ (by omega)).mono ?_; rintro e w' ⟨rfl, rfl⟩)
              | (go_at_call 9; refine (round_r r gp gk (R.rounds j) _ HB.out.ring).mono ?_; rintro e w6 ⟨rfl, h6, k6⟩))
            go_roundg (4 * n + 8 - (j + 1))
            case measure => omega
            case rel => exact ⟨j + 1, by go_num, by omega, rfl, (HB.out.step h6 HB.out.inv.round k6 : Rn w w6 r gp gk (R.rounds (j + 1)))⟩
          · obtain rfl : j = 4 * n + 8 := by omega
            have hjl' : ¬ ((4 * n + 8 : Nat) : Int) < 4 * (n : Int) + 8 := by omega
            have hrg := H5.out.inv.calm (m := 4 * n + 8) (by have := HN.out; omega)
            have HRG : Hid (Rgt 3 (R.rounds (4 * n + 8))) := hrg
            clear hrg
            generalize R.rounds (4 * n + 8) = R6 at HB HRG
            obtain ⟨w6, hw6⟩ : ∃ w6, w6 = wr := ⟨_, rfl⟩
            rw [← hw6] at HB ⊢
            clear hw6
            go_wp2_with fail
            refine (rounds_r n _ (by omega)).mono ?_
            rintro e w' ⟨rfl, hw'⟩
            subst w'
            go_wp2_with fail
            refine (is_r r gp gk R6 _ HB.out.ring HB.out.inv).mono ?_
            rintro e w7 ⟨C, hC, rfl, b7⟩
            rw [HRG.out.is hC _ (Nat.le_refl _)]
            have H7 : Hid (Rn w w7 r gp gk R6) := HB.out.below b7
            clear b7 hC
            go_wp2_with fail
            refine (round_r r gp gk R6 _ H7.out.ring).mono ?_
            rintro e w8 ⟨rfl, h8, k8⟩
            have H8 : Hid (Rn w w8 r gp gk R6.round) := H7.out.step h8 H7.out.inv.round k8
            clear h8 k8
            go_wp2_with fail
            refine (is_r r gp gk R6.round _ H8.out.ring H8.out.inv).mono ?_
            rintro e w9 ⟨C, hC, rfl, b9⟩
            rw [HRG.out.round.is hC _ (Nat.le_refl _)]
            go_wp2
            go_ret
            exact ⟨rfl, H8.out.bel.trans (b9.mono H8.out.bel.size)⟩

/-! ### The row's step -/
set_option maxRecDepth 100000 in
theorem lifted (os : Os) (started : os.Started) (H : Type) (enc : TypeId × Value → H) :
    ReturnsInHanded {} Try.checked os 3 .any (Rows.idealCalmSpec.pre6 enc Try.prog Try.f3 Rows.idealCalmRow.domain false) (Rows.idealCalmSpec.post enc Try.prog Try.f3 false true false false) := by
  refine returnsInHanded_of_change (C := Try.checked) own started (by kernel_rfl) Try.func3
    (ChangeSpec.witness6 (enc := enc) (C := Try.checked) false ⟨#[], #[.slice none 0 0, .slice none 0 0], []⟩ 8 (by kernel_rfl) (by kernel_rfl) (by kernel_rfl) (by kernel_rfl)) ?_
  intro W base args ds gs before hval0 hW hcnd _
  have hval : ∀ (j : Nat) t v, Try.f3.params[j]? = some t → args[j]? = some v → Value.okWide Try.prog W .any base t v := hval0
  have hW' := hW
  obtain ⟨p, q, hA0, hV, rfl, hfz, hnd⟩ := hW
  have hA : DataW.TrodAll enc Try.prog W 0 (fun _ => true) true Try.f3.params.toList args.toList ds p := hA0
  rw [Try.params3] at hA hval
  obtain ⟨v0, vs0, d0, ds0, p0, q0, hargs, rfl, rfl, h0, r0⟩ := trodAll_cons hA
  obtain ⟨v1, vs1, d1, ds1, p1, q1, rfl, rfl, rfl, h1, r1⟩ := trodAll_cons r0
  obtain ⟨rfl, rfl, rfl⟩ := trodAll_nil r1
  obtain rfl : args = #[v0, v1] := by cases args; simp_all
  obtain ⟨rfl, rfl⟩ := trodVars_none hV
  obtain ⟨a0, len0, cap0, rfl⟩ := okWide_slice Try.underlying22 (hval 0 22 v0 rfl rfl)
  have k0 := h0
  have lt0 : ∀ x ∈ p0, x.block < W.heap.size := by obtain ⟨m, hm⟩ := k0; exact DataW.trod_lt m _ _ _ hm
  obtain ⟨t0, w0⟩ : ∃ ts, InRow 1 encU Go.Proofs.Ytkeeolnpbjoigaa.u64 0 W a0 len0 ts := by
    obtain ⟨fuel, hf⟩ := h0
    exact inrow_of 1 encU Go.Proofs.Ytkeeolnpbjoigaa.u64 0 22 31 Try.underlying22 cellsU1 (by omega) lenU (fun n cs x => uid_of n cs x) hf
  obtain ⟨a1, len1, cap1, rfl⟩ := okWide_slice Try.underlying23 (hval 1 23 v1 rfl rfl)
  have k1 := h1
  have lt1 : ∀ x ∈ p1, x.block < W.heap.size := by obtain ⟨m, hm⟩ := k1; exact DataW.trod_lt m _ _ _ hm
  obtain ⟨t1, w1⟩ : ∃ ts, InRow 4 Ac10.cells Ac10.ok ac100 W a1 len1 ts := by
    obtain ⟨fuel, hf⟩ := h1
    exact inrow_of 4 Ac10.cells Ac10.ok ac100 23 33 Try.underlying23 cellsAc10 (by omega) lenAc10 (fun n cs x => ac10_of n cs x) hf
  clear hA0 hval0
  refine (walk a0 len0 cap0 t0 a1 len1 cap1 t1 W w0 w1).mono fun e W' ⟨he, bel⟩ => ?_
  subst he
  exact ⟨_, rfl, _, _, _, [], _, [], hW', trodAll_mk1 (shut_bool Try.underlying4 _), (trodAll_cons_mk (Below.trod laidOut (by kernel_rfl) (of_decide_eq_true (by kernel_rfl)) k0 bel lt0) (trodAll_cons_mk (Below.trod laidOut (by kernel_rfl) (of_decide_eq_true (by kernel_rfl)) k1 bel lt1) trodAll_mk0)), rfl, bel.frame _, fun h => by cases h⟩

theorem over : Rows.idealCalmRow.holds Try.pinned (OpenSpec.ofChange Rows.idealCalmSpec) :=
  OpenClaim.holds_of_wide 3 Try.f3 rfl rfl rfl rfl rfl rfl rfl ⟨rfl, rfl, rfl, rfl, rfl⟩ rfl rfl rfl rfl rfl (by kernel_rfl) Try.func3 (by kernel_rfl)
    (of_decide_eq_true (by kernel_rfl)) (by unfold Func.isWrapper; first | (rw [if_pos (by decide +kernel)]; kernel_rfl) | (rw [if_neg (by decide +kernel)]; exact ⟨rfl, rfl⟩))
    (fun os started H enc _ => lifted os started H enc)

end Go.Proofs.Ytkeeolnpbjoigaa.idealCalm

namespace Go.Proofs.Ytkeeolnpbjoigaa
/-- For every list of places and every list of calls: whatever any 120 calls did, so many rounds later each member knows what it should, and it stays so. -/
theorem idealCalm_holds : Rows.IdealCalmSaid := idealCalm.over
#print axioms idealCalm_holds
end Go.Proofs.Ytkeeolnpbjoigaa
