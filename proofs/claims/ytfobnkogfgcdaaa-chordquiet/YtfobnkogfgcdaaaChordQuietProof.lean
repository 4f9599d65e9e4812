/- For every list of places and every list of addresses: the ring of the base members stays as it is, whoever looks, as long as nobody comes or goes.
  The frame is the guide's own shell (proof-skeleton.mjs) at this function; the walk and all ahead of it are mine. -/
import Derived.Test.YtfobnkogfgcdaaaRows
import Derived.Test.YtfobnkogfgcdaaaChQuiet
import Derived.Deep.CutBlock
import Derived.Deep.DeepCutAuto
import Derived.Deep.LoopGhost
import Derived.Deep.QuietTactic
import Derived.BigQuiet
import Derived.WalkKit
import Derived.WalkLawsBesides
import Derived.ProofKit
import Derived.OpenShut
import Derived.ShutString
import Derived.ChangeOld
import Derived.Below
namespace Go.Proofs.Ytfobnkogfgcdaaa.chordQuiet
open Go.ChangeShapes Go.WideShapes Go.ChangeAt Go.RowKit
open Go.ChangeMaps (open_string shut_string)
set_option linter.unusedVariables false

theorem own : ownKnob Try.prog.godebug = none := by kernel_rfl
theorem laidOut : laidOutB Try.prog = true := by kernel_rfl


/-! ### STEP 1: the walk -/
set_option maxRecDepth 100000 in
set_option maxHeartbeats 2000000 in
theorem walk (a0 : Option Addr) (len0 cap0 : Nat) (t0 : List Int) (a1 : Option Addr) (len1 cap1 : Nat) (t1 : List Int) (w : World) (w0 : InRow 1 encU Go.Proofs.Ytfobnkogfgcdaaa.u64 0 w a0 len0 t0) (w1 : InRow 1 encI i64 0 w a1 len1 t1) :
    Calls Try.prog 4 #[.slice a0 len0 cap0, .slice a1 len1 cap1] w fun e w' => e = .returned (.bool true) ∧ Below w.heap.size w w' := by
  have HI : Hid (IdIn w a0 len0 t0) := w0
  have HL : Hid (InIn w a1 len1 t1) := w1
  have hm0 := w0.2.1
  have hm1 := w1.2.1
  clear w0 w1
  by_cases q4 : len0 ≠ 4
  · go_enter Try.func4, Try.ntmps4
    go_wp2_with fail
    refine (new_len a0 len0 cap0 _ q4 hm0).mono ?_
    rintro e w2 ⟨rfl, b2⟩
    have B2 : Hid (Below w.heap.size w w2) := b2
    clear b2
    go_wp2_with fail
    refine (new_len a0 len0 cap0 _ q4 hm0).mono ?_
    rintro e w3 ⟨rfl, b3⟩
    have B3 : Hid (Below w.heap.size w w3) := B2.out.trans (b3.mono B2.out.size)
    clear b3
    go_wp2_with (go_at_call 8; refine (awake10_any _).mono ?_; rintro e w' ⟨rfl, hb⟩)
    go_ret
    exact ⟨rfl, B3.out.trans (hb.mono B3.out.size)⟩
  obtain rfl : len0 = 4 := by omega
  clear q4
  go_enter Try.func4, Try.ntmps4
  go_wp2_with fail
  refine (new_four a0 cap0 t0 _ HI.out).mono ?_
  rintro e w2 ⟨h2, b2⟩
  have B2 : Hid (Below w.heap.size w w2) := b2
  clear b2
  rcases h2 with ⟨S, hp, hm, hl, rfl⟩ | ⟨S, r, gp, gk, hp, hm, hl, rfl, hr, g1, g2, g3⟩
  · have HS : Hid (S.Pairwise (· < ·) ∧ (∀ x, x ∈ S ↔ x ∈ t0) ∧ S.length < 4) := ⟨hp, hm, hl⟩
    clear hp hm hl
    go_wp2_with fail
    refine (new_four a0 cap0 t0 _ (HI.out.below (Nat.le_refl _) B2.out)).mono ?_
    rintro e w3 ⟨h3, b3⟩
    have B3 : Hid (Below w.heap.size w w3) := B2.out.trans (b3.mono B2.out.size)
    clear b3
    rcases h3 with ⟨S', hp', hm', hl', rfl⟩ | ⟨S', r, gp, gk, hp', hm', hl', rfl, _⟩
    · clear hp' hm' hl'
      go_wp2_with (go_at_call 8; refine (awake10_any _).mono ?_; rintro e w' ⟨rfl, hb⟩)
      go_ret
      exact ⟨rfl, B3.out.trans (hb.mono B3.out.size)⟩
    · have e1 : S' = S := rise_same S' S hp' HS.out.1 (fun x => (hm' x).trans (HS.out.2.1 x).symm)
      have := HS.out.2.2
      rw [e1] at hl'
      omega
  obtain ⟨c0, c1, c2, c3, hc⟩ := circ_of HI.out.1 hp hm hl
  have HC : Hid (Circ t0 (circleOf t0 S) c0 c1 c2 c3) := hc
  have HS : Hid (S.Pairwise (· < ·) ∧ (∀ x, x ∈ S ↔ x ∈ t0) ∧ S.length = 4) := ⟨hp, hm, hl⟩
  obtain ⟨R, hR⟩ : ∃ R, R = newTo t0 (circleOf t0 S) 4 := ⟨_, rfl⟩
  rw [← hR] at hr
  have HR : Hid (R = newTo t0 (circleOf t0 S) 4) := hR
  have H2 : Hid (RingAt w2 r gp gk R ∧ w.heap.size ≤ r ∧ w.heap.size ≤ gp ∧ w.heap.size ≤ gk) := ⟨hr, g1, g2, g3⟩
  clear hc hp hm hl hR hr g1 g2 g3
  go_wp2_with fail
  refine (new_four a0 cap0 t0 _ (HI.out.below (Nat.le_refl _) B2.out)).mono ?_
  rintro e w3 ⟨h3, b3⟩
  rcases h3 with ⟨S', hp', hm', hl', rfl⟩ | ⟨S', r2, gp2, gk2, hp', hm', hl', rfl, hr2, f1, f2, f3⟩
  · have e1 : S' = S := rise_same S' S hp' HS.out.1 (fun x => (hm' x).trans (HS.out.2.1 x).symm)
    have := HS.out.2.2
    rw [e1] at hl'
    omega
  have e1 : S' = S := rise_same S' S hp' HS.out.1 (fun x => (hm' x).trans (HS.out.2.1 x).symm)
  rw [e1, ← HR.out] at hr2
  have B3 : Hid (Below w.heap.size w w3) := B2.out.trans (b3.mono B2.out.size)
  have HA : Hid ((r2 ≠ gp ∧ r2 ≠ gk) ∧ (gp2 ≠ gp ∧ gp2 ≠ gk) ∧ (gk2 ≠ gp ∧ gk2 ≠ gk)) := by
    have := H2.out.1.lt
    exact ⟨⟨by omega, by omega⟩, ⟨by omega, by omega⟩, ⟨by omega, by omega⟩⟩
  have H3 : Hid (RingAt w3 r gp gk R ∧ RingAt w3 r2 gp2 gk2 R ∧ Below w.heap.size w w3) := ⟨H2.out.1.below b3, hr2, B3.out⟩
  clear hp' hm' hl' hr2 f1 f2 f3 e1 b3
  go_wp2
  go_loopg [9] len1 (fun kx s wr => ∃ k : Nat, s = .int .i64 k ∧ k ≤ len1 ∧ k ≤ 60 ∧ kx = len1 - k ∧ Hid (RingAt wr r gp gk R ∧ RingAt wr r2 gp2 gk2 R ∧ Below w.heap.size w wr))
  case atStart => exact ⟨0, rfl, Nat.zero_le _, by omega, rfl, H3⟩
  case round =>
    obtain ⟨k, rfl, hk, hk60, rfl, HB⟩ := hrel
    clear H3 B3 B2
    by_cases hlt : k < len1 ∧ k < 60
    · obtain ⟨hlt, h60⟩ := hlt
      obtain ⟨b, o, rfl, hbb, hx, hcx⟩ := (HL.out.below (Nat.le_refl _) HB.out.2.2).one (v := Value.int .i64) (fun _ => rfl) (i := k) hlt
      generalize t1.getD k 0 = x at hx hcx
      have HX : Hid (i64 x ∧ R.stab x = R) := ⟨hx, by rw [HR.out]; exact HC.out.stays x⟩
      clear hx
      go_wp2_with (go_at_call 12; refine (stab_r r gp gk R x _ HB.out.1 HX.out.1).mono ?_; rintro e w4 ⟨rfl, h4, k4⟩)
      go_roundg (len1 - (k + 1))
      case measure => omega
      case rel =>
        rw [HX.out.2] at h4
        exact ⟨k + 1, by go_num, by omega, by omega, rfl, (⟨h4, HB.out.2.1.beside HB.out.1 k4 HA.out.1 HA.out.2.1 HA.out.2.2, HB.out.2.2.trans (k4.below H2.out.2.2.1 H2.out.2.2.2 HB.out.2.2.size)⟩ : RingAt w4 r gp gk R ∧ RingAt w4 r2 gp2 gk2 R ∧ Below w.heap.size w w4)⟩
    · have hq : k < len1 → ¬ k < 60 := fun h1 h2 => hlt ⟨h1, h2⟩
      clear hlt
      obtain ⟨w5, hw5⟩ : ∃ w5, w5 = wr := ⟨_, rfl⟩
      rw [← hw5] at HB ⊢
      clear hw5
      have H5 : Hid (RingAt w5 r gp gk R ∧ RingAt w5 r2 gp2 gk2 R ∧ Below w.heap.size w w5) := HB.out
      clear HB
      by_cases q1 : k < len1
      all_goals
        first
          | (have q2 : ¬ k < 60 := hq q1
             clear hq
             go_wp2)
          | (clear hq
             go_wp2)
        go_loopg [10] 4 (fun kx s wr => ∃ n : Nat, s = .int .i64 n ∧ n ≤ 4 ∧ kx = 4 - n ∧ Hid (RingAt wr r gp gk R ∧ RingAt wr r2 gp2 gk2 R ∧ Below w.heap.size w wr))
        case atStart => exact ⟨0, rfl, Nat.zero_le _, rfl, H5⟩
        case round =>
          obtain ⟨n, rfl, hn, rfl, HB⟩ := hrel
          clear H5
          by_cases hn4 : n < 4
          · obtain ⟨p, hp, hp3⟩ := HC.out.known n (by omega) (by omega)
            rw [← HR.out] at hp
            have HP : Hid (R.kn n = some p ∧ p.succ.length = 3) := ⟨hp, hp3⟩
            clear hp hp3
            go_wp2_with fail
            refine (peer_some r gp gk R n p _ HB.out.1 HP.out.1 (by have := HP.out.2; omega)).mono ?_
            rintro e w6 ⟨a6, l6, c6, rfl, h6, b6⟩
            have hl6 : l6 = 3 := h6.row.1.symm.trans HP.out.2
            subst hl6
            have H6 : Hid (RingAt w6 r gp gk R ∧ RingAt w6 r2 gp2 gk2 R ∧ Below w.heap.size w w6 ∧ InIn w6 a6 3 p.succ) := ⟨HB.out.1.below b6, HB.out.2.1.below b6, HB.out.2.2.trans (b6.mono HB.out.2.2.size), h6.row⟩
            clear h6 b6 HB
            obtain ⟨W7, hW7⟩ : ∃ W7, W7 = w6.alloc (.cells #[.int .u64 p.id, .int .i64 p.pred, .slice a6 3 c6] 43) := ⟨_, rfl⟩
            have b7 : Below w6.heap.size w6 W7 := by rw [hW7]; exact below_one _ _
            have H7 : Hid (RingAt W7 r gp gk R ∧ RingAt W7 r2 gp2 gk2 R ∧ Below w.heap.size w W7 ∧ InIn W7 a6 3 p.succ ∧ W7.cell? ⟨w6.heap.size, 1, none⟩ = some (.int .i64 p.pred) ∧ W7.cell? ⟨w6.heap.size, 2, none⟩ = some (.slice a6 3 c6)) := ⟨H6.out.1.below b7, H6.out.2.1.below b7, H6.out.2.2.1.trans (b7.mono H6.out.2.2.1.size), H6.out.2.2.2.below (Nat.le_refl _) b7, by rw [hW7]; simp, by rw [hW7]; simp⟩
            clear b7 H6
            go_wp2_with fail
            rw [← hW7]
            clear hW7
            refine (peer_some r2 gp2 gk2 R n p _ H7.out.2.1 HP.out.1 (by have := HP.out.2; omega)).mono ?_
            rintro e w8 ⟨a8, l8, c8, rfl, h8, b8⟩
            have hl8 : l8 = 3 := h8.row.1.symm.trans HP.out.2
            subst hl8
            obtain ⟨W9, hW9⟩ : ∃ W9, W9 = w8.alloc (.cells #[.int .u64 p.id, .int .i64 p.pred, .slice a8 3 c8] 43) := ⟨_, rfl⟩
            have b9 : Below W7.heap.size W7 W9 := by rw [hW9]; exact b8.trans ((below_one _ _).mono b8.size)
            have H9 : Hid (RingAt W9 r gp gk R ∧ RingAt W9 r2 gp2 gk2 R ∧ Below w.heap.size w W9 ∧ InIn W9 a6 3 p.succ ∧ InIn W9 a8 3 p.succ) := ⟨H7.out.1.below b9, H7.out.2.1.below b9, H7.out.2.2.1.trans (b9.mono H7.out.2.2.1.size), H7.out.2.2.2.1.below (Nat.le_refl _) b9, h8.row.below (Nat.le_refl _) (by rw [hW9]; exact below_one _ _)⟩
            have x1 := cell_grown H7.out.2.2.2.2.1 b9
            have x2 := cell_grown H7.out.2.2.2.2.2 b9
            have y1 : W9.cell? ⟨w8.heap.size, 1, none⟩ = some (.int .i64 p.pred) := by rw [hW9]; simp
            have y2 : W9.cell? ⟨w8.heap.size, 2, none⟩ = some (.slice a8 3 c8) := by rw [hW9]; simp
            have zx := cell_block x1
            have zy := cell_block y1
            have ee : (p.pred != p.pred) = false := by simp
            clear h8 b8 b9 H7
            go_upto_region 14 with fail
            rw [← hW9]
            clear hW9
            have HX : Hid (W9.cell? ⟨w6.heap.size, 2, none⟩ = some (.slice a6 3 c6) ∧ W9.cell? ⟨w8.heap.size, 2, none⟩ = some (.slice a8 3 c8)) := ⟨x2, y2⟩
            go_wp2
            go_loopg [98] 3 (fun kx s wr => ∃ j : Nat, s = .int .i64 j ∧ j ≤ 3 ∧ kx = 3 - j ∧ Hid (Below W9.heap.size W9 wr))
            case atStart => exact ⟨0, rfl, Nat.zero_le _, rfl, (Below.refl _ _ : Below W9.heap.size W9 W9)⟩
            case round =>
              obtain ⟨j, rfl, hj, rfl, HJ⟩ := hrel
              clear x1 x2 y1 y2 zx zy
              by_cases hj3 : j < 3
              · obtain ⟨d1, o1, rfl, hd1, _, hc1⟩ := (H9.out.2.2.2.1.below (Nat.le_refl _) HJ.out).one (v := Value.int .i64) (fun _ => rfl) (i := j) hj3
                obtain ⟨d2, o2, rfl, hd2, _, hc2⟩ := (H9.out.2.2.2.2.below (Nat.le_refl _) HJ.out).one (v := Value.int .i64) (fun _ => rfl) (i := j) hj3
                have x2 := cell_grown HX.out.1 HJ.out
                have y2 := cell_grown HX.out.2 HJ.out
                have zx := cell_block x2
                have zy := cell_block y2
                generalize p.succ.getD j 0 = x at hc1 hc2
                have en : (x != x) = false := by simp
                go_wp2_with (go_quiet (fail))
                go_roundg (3 - (j + 1))
                case measure => omega
                case rel => exact ⟨j + 1, by go_num, by omega, rfl, below_drew HJ.out _⟩
              · go_wp2
                go_roundg (4 - (n + 1))
                case measure => omega
                case rel => exact ⟨n + 1, by go_num, by omega, rfl, (⟨H9.out.1.below HJ.out, H9.out.2.1.below HJ.out, H9.out.2.2.1.trans (HJ.out.mono H9.out.2.2.1.size)⟩ : RingAt _ r gp gk R ∧ RingAt _ r2 gp2 gk2 R ∧ Below w.heap.size w _)⟩
          · go_wp2_with (go_at_call 8; refine (awake10_any _).mono ?_; rintro e w' ⟨rfl, hb⟩)
            go_ret
            exact ⟨rfl, HB.out.2.2.trans (hb.mono HB.out.2.2.size)⟩

/-! ### The row's step -/
set_option maxRecDepth 100000 in
theorem lifted (os : Os) (started : os.Started) (H : Type) (enc : TypeId × Value → H) :
    ReturnsInHanded {} Try.checked os 4 .any (Rows.chordQuietSpec.pre6 enc Try.prog Try.f4 Rows.chordQuietRow.domain false) (Rows.chordQuietSpec.post enc Try.prog Try.f4 false true false false) := by
  refine returnsInHanded_of_change (C := Try.checked) own started (by kernel_rfl) Try.func4
    (ChangeSpec.witness6 (enc := enc) (C := Try.checked) false ⟨#[], #[.slice none 0 0, .slice none 0 0], []⟩ 8 (by kernel_rfl) (by kernel_rfl) (by kernel_rfl) (by kernel_rfl)) ?_
  intro W base args ds gs before hval0 hW hcnd _
  have hval : ∀ (j : Nat) t v, Try.f4.params[j]? = some t → args[j]? = some v → Value.okWide Try.prog W .any base t v := hval0
  have hW' := hW
  obtain ⟨p, q, hA0, hV, rfl, hfz, hnd⟩ := hW
  have hA : DataW.TrodAll enc Try.prog W 0 (fun _ => true) true Try.f4.params.toList args.toList ds p := hA0
  rw [Try.params4] at hA hval
  obtain ⟨v0, vs0, d0, ds0, p0, q0, hargs, rfl, rfl, h0, r0⟩ := trodAll_cons hA
  obtain ⟨v1, vs1, d1, ds1, p1, q1, rfl, rfl, rfl, h1, r1⟩ := trodAll_cons r0
  obtain ⟨rfl, rfl, rfl⟩ := trodAll_nil r1
  obtain rfl : args = #[v0, v1] := by cases args; simp_all
  obtain ⟨rfl, rfl⟩ := trodVars_none hV
  obtain ⟨a0, len0, cap0, rfl⟩ := okWide_slice Try.underlying22 (hval 0 22 v0 rfl rfl)
  have k0 := h0
  have lt0 : ∀ x ∈ p0, x.block < W.heap.size := by obtain ⟨m, hm⟩ := k0; exact DataW.trod_lt m _ _ _ hm
  obtain ⟨t0, w0⟩ : ∃ ts, InRow 1 encU Go.Proofs.Ytfobnkogfgcdaaa.u64 0 W a0 len0 ts := by
    obtain ⟨fuel, hf⟩ := h0
    exact inrow_of 1 encU Go.Proofs.Ytfobnkogfgcdaaa.u64 0 22 32 Try.underlying22 cellsU1 (by omega) lenU (fun n cs x => uid_of n cs x) hf
  obtain ⟨a1, len1, cap1, rfl⟩ := okWide_slice Try.underlying30 (hval 1 30 v1 rfl rfl)
  have k1 := h1
  have lt1 : ∀ x ∈ p1, x.block < W.heap.size := by obtain ⟨m, hm⟩ := k1; exact DataW.trod_lt m _ _ _ hm
  obtain ⟨t1, w1⟩ : ∃ ts, InRow 1 encI i64 0 W a1 len1 ts := by
    obtain ⟨fuel, hf⟩ := h1
    exact inrow_of 1 encI i64 0 30 3 Try.underlying30 cellsI1 (by omega) lenI (fun n cs x => int_of n cs x) hf
  clear hA0 hval0
  refine (walk a0 len0 cap0 t0 a1 len1 cap1 t1 W w0 w1).mono fun e W' ⟨he, bel⟩ => ?_
  subst he
  exact ⟨_, rfl, _, _, _, [], _, [], hW', trodAll_mk1 (shut_bool Try.underlying4 _), (trodAll_cons_mk (Below.trod laidOut (by kernel_rfl) (of_decide_eq_true (by kernel_rfl)) k0 bel lt0) (trodAll_cons_mk (Below.trod laidOut (by kernel_rfl) (of_decide_eq_true (by kernel_rfl)) k1 bel lt1) trodAll_mk0)), rfl, bel.frame _, fun h => by cases h⟩

theorem over : Rows.chordQuietRow.holds Try.pinned (OpenSpec.ofChange Rows.chordQuietSpec) :=
  OpenClaim.holds_of_wide 4 Try.f4 rfl rfl rfl rfl rfl rfl rfl ⟨rfl, rfl, rfl, rfl, rfl⟩ rfl rfl rfl rfl rfl (by kernel_rfl) Try.func4 (by kernel_rfl)
    (of_decide_eq_true (by kernel_rfl)) (by unfold Func.isWrapper; first | (rw [if_pos (by decide +kernel)]; kernel_rfl) | (rw [if_neg (by decide +kernel)]; exact ⟨rfl, rfl⟩))
    (fun os started H enc _ => lifted os started H enc)

end Go.Proofs.Ytfobnkogfgcdaaa.chordQuiet

namespace Go.Proofs.Ytfobnkogfgcdaaa
/-- For every list of places and every list of addresses: the ring of the base members stays as it is, whoever looks, as long as nobody comes or goes. -/
theorem chordQuiet_holds : Rows.ChordQuietSaid := chordQuiet.over
#print axioms chordQuiet_holds
end Go.Proofs.Ytfobnkogfgcdaaa
