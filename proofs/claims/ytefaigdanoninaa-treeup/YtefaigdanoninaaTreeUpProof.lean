/- Proved: for every list that says who is next and all members (of each the first 12): whoever tells another one of the tree is one deeper than that, and the root is not deep at all; where there is no tree, that is told; of no members there is none.
  The frame is the guide's own shell (proof-skeleton.mjs) at this function; the walk and all ahead of it are mine. -/
import Derived.Test.YtefaigdanoninaaRows
import Derived.Test.YtefaigdanoninaaTrFit
import Derived.Test.YtefaigdanoninaaInCap
import Derived.Deep.CutBlock
import Derived.Deep.DeepCutAuto
import Derived.Deep.LoopGhost
import Derived.Deep.RegionHeld3
import Derived.WalkKit
import Derived.WalkLawsBesides
import Derived.ProofKit
import Derived.OpenShut
import Derived.ShutString
import Derived.ChangeOld
import Derived.Below
namespace Go.Proofs.Ytefaigdanoninaa.treeUp
open Go.ChangeShapes Go.WideShapes Go.ChangeAt Go.RowKit
open Go.ChangeMaps (open_string shut_string)
set_option linter.unusedVariables false

theorem own : ownKnob Try.prog.godebug = none := by kernel_rfl
theorem laidOut : laidOutB Try.prog = true := by kernel_rfl


/-! ### STEP 1: the walk -/
set_option maxRecDepth 100000 in
set_option maxHeartbeats 2000000 in
theorem walk (a0 : Option Addr) (len0 cap0 : Nat) (t0 : List Int) (a1 : Option Addr) (len1 cap1 : Nat) (t1 : List Int) (w : World) (w0 : InRow 1 encI i64 0 w a0 len0 t0) (c0 : len0 ≤ cap0) (w1 : InRow 1 encI i64 0 w a1 len1 t1) (c1 : len1 ≤ cap1) :
    Calls Try.prog 3 #[.slice a0 len0 cap0, .slice a1 len1 cap1] w fun e w' => e = .returned (.bool true) ∧ Below w.heap.size w w' := by
  go_enter Try.func3, Try.ntmps3
  have HA0 : Hid (InIn w a0 len0 t0 ∧ len0 ≤ cap0) := ⟨w0, c0⟩
  have HA1 : Hid (InIn w a1 len1 t1 ∧ len1 ≤ cap1) := ⟨w1, c1⟩
  have z0 := w0.2.1
  have z1 := w1.2.1
  clear w0 w1
  go_upto_if 12 with fail
  go_cut [0] (fun v wx => ∃ n c, v = .slice a0 n c ∧ n ≤ 12 ∧ wx = w ∧ Hid (InIn w a0 n (t0.take 12)))
  case first =>
    by_cases h : 12 < len0
    · have HN : Hid (InIn w a0 12 (t0.take 12)) := HA0.out.1.take 12 (by omega)
      go_wp2
      go_meet
      exact ⟨12, _, rfl, by omega, rfl, HN⟩
    · have HN : Hid (InIn w a0 len0 (t0.take 12)) := by
        have := HA0.out.1
        rw [List.take_of_length_le (by rw [this.1]; omega)]; exact this
      go_wp2
      go_meet
      exact ⟨len0, _, rfl, by omega, rfl, HN⟩
  case rest =>
    rename World => W1
    obtain ⟨n0, k0, rfl, hn0, hw1, H0⟩ := hcut
    subst W1
    go_upto_if 17 with fail
    go_cut [1] (fun v wx => ∃ n c, v = .slice a1 n c ∧ n ≤ 12 ∧ wx = w ∧ Hid (InIn w a1 n (t1.take 12)))
    case first =>
      by_cases h : 12 < len1
      · have HN : Hid (InIn w a1 12 (t1.take 12)) := HA1.out.1.take 12 (by omega)
        go_wp2
        go_meet
        exact ⟨12, _, rfl, by omega, rfl, HN⟩
      · have HN : Hid (InIn w a1 len1 (t1.take 12)) := by
          have := HA1.out.1
          rw [List.take_of_length_le (by rw [this.1]; omega)]; exact this
        go_wp2
        go_meet
        exact ⟨len1, _, rfl, by omega, rfl, HN⟩
    case rest =>
      rename World => W1
      obtain ⟨n1, k1, rfl, hn1, hw1, H1⟩ := hcut
      subst W1
      obtain ⟨l, hl⟩ : ∃ l, l = t0.take 12 := ⟨_, rfl⟩
      obtain ⟨ms, hms⟩ : ∃ l, l = t1.take 12 := ⟨_, rfl⟩
      rw [← hl] at H0
      rw [← hms] at H1
      clear hl hms HA0 HA1 z0 z1 c0 c1
      have HO := tree_of w 30 (.slice a0 n0 k0) 54 (nxL l) ⟨#[103]⟩ a1 n1 k1 ms (by decide) H1.out (wk_list w a0 n0 k0 l _ H0.out (by omega)) (nxL_neg _) (by omega)
      have HO2 : Hid _ := HO
      have HOK : Hid (TrOk (nxL l) (treeOf (nxL l) ms).2) := tree_ok _ _
      have HLN : Hid (l.length = n0 ∧ ms.length = n1) := ⟨H0.out.1, H1.out.1⟩
      have HRT : Hid ((treeOf (nxL l) ms).1 = 0 → 0 < ms.length → (treeOf (nxL l) ms).2.root ≠ -1) := fun h1 h2 => tree_root h1 h2
      have HNN : Hid (ms.length = 0 → (treeOf (nxL l) ms).2.root = -1) := fun h => by
        have : ms = [] := List.eq_nil_of_length_eq_zero h
        rw [this, tree_none]; rfl
      clear HO
      generalize treeOf (nxL l) ms = tr at HO2 HOK HRT HNN
      obtain ⟨cd, t⟩ := tr
      simp only at HO2 HOK HRT HNN
      go_wp2_with fail
      refine Calls.mono HO2.out ?_
      clear HO2
      rintro e w3 ⟨h3, b3⟩
      rcases h3 with ⟨hc, rfl⟩ | ⟨hc, g, rfl, hup⟩
      · have HB : Hid (Below w.heap.size w w3) := b3
        clear b3 hc
        go_wp2_with (go_at_call 5; refine (awake20_any _).mono ?_; rintro e w4 ⟨rfl, b4⟩)
        go_ret
        exact ⟨rfl, HB.out.trans (((below_one _ _).trans (b4.mono (by simp))).mono HB.out.size)⟩
      · subst hc
        obtain ⟨root, up⟩ := t
        obtain ⟨W4, hW4⟩ : ∃ W, W = w3.alloc (.cells #[.int .i64 root, .map (some g)] 25) := ⟨_, rfl⟩
        obtain ⟨q, hq⟩ : ∃ q, q = w3.heap.size := ⟨_, rfl⟩
        have b4 : Below w3.heap.size w3 W4 := by rw [hW4]; exact below_one _ _
        have d0 : W4.cell? ⟨q, 0, none⟩ = some (.int .i64 root) := by rw [hW4, hq]; exact World.cell?_alloc_new ..
        have d1 : W4.cell? ⟨q, 1, none⟩ = some (.map (some g)) := by rw [hW4, hq]; simp
        have dl := cell_block d0
        have H4 : Hid (UpAt W4 g up ∧ Below w.heap.size w W4) := ⟨UpAt.below (m := up) hup b4, b3.trans (b4.mono b3.size)⟩
        clear b3 b4 hup
        go_upto_region 6 with fail
        rw [← hW4]
        try rw [← hq]
        clear hW4 hq
        have HFL : Hid (up.length ≤ 12 ∧ (∀ k ∈ up.map (·.1), i64 k)) := ⟨by have := fit_len HOK.out; have := HLN.out.1; simp at *; omega, fun k hk => by have := fit_key HOK.out hk; have := HLN.out.1; unfold i64; omega⟩
        by_cases h0 : n1 = 0
        · have e0 : ((n1 : Int) == 0) = true := by simp [h0]
          have HR : Hid (root = -1) := HNN.out (by rw [HLN.out.2]; exact h0)
          have e1 : (root == -1) = true := by simpa using HR.out
          subst h0
          go_wp2_with (go_at_call 5; refine (awake20_any _).mono ?_; rintro e w5 ⟨rfl, b5⟩
                       have d0' := cell_grown d0 b5)
          go_ret
          exact ⟨rfl, H4.out.2.trans (b5.mono H4.out.2.size)⟩
        · have e0 : ((n1 : Int) == 0) = false := by simp [h0]
          have HR : Hid (root ≠ -1) := HRT.out (by trivial) (by rw [HLN.out.2]; omega)
          clear h0
          go_wp2
          go_loopg [7] n0 (fun kx s wr => ∃ j : Nat, s = .int .i64 j ∧ j ≤ n0 ∧ kx = n0 - j ∧ Hid (Below W4.heap.size W4 wr))
          case atStart => exact ⟨0, rfl, Nat.zero_le _, rfl, (Below.refl _ _ : Below W4.heap.size W4 W4)⟩
          case round =>
            obtain ⟨j, rfl, hj, rfl, HB⟩ := hrel
            have f0 := cell_grown d0 HB.out
            have f1 := cell_grown d1 HB.out
            have fl := cell_block f0
            by_cases hlt : j < n0
            · have hltI : (j : Int) < (n0 : Int) := by omega
              go_wp2_with fail
              refine (children_t ⟨root, up⟩ g j _ (H4.out.1.below HB.out) (by have := HFL.out.1; simp; omega) HFL.out.2).mono ?_
              rintro e w5 ⟨v5, cl, rfl, hs, _, hm, b5⟩
              obtain ⟨a5, k5, rfl, hin, _⟩ := hs.ex
              have HB5 : Hid (Below W4.heap.size W4 w5) := HB.out.trans (b5.mono HB.out.size)
              have HCH : Hid (InIn w5 a5 cl.length cl ∧ ∀ x, x ∈ cl → lookI up x = some (j : Int)) := ⟨hin, fun x hx => (hm x).1 hx⟩
              have hcl := hin.2.1
              obtain ⟨m, hmm⟩ : ∃ m, m = cl.length := ⟨_, rfl⟩
              rw [← hmm] at hcl ⊢
              have HM : Hid (m = cl.length) := hmm
              clear hs hin hm b5 hmm f0 f1 fl
              go_wp2
              go_loopg [54] m (fun kx s wr => ∃ i : Nat, s = .int .i64 i ∧ i ≤ m ∧ kx = m - i ∧ Hid (Below w5.heap.size w5 wr))
              case atStart => exact ⟨0, rfl, Nat.zero_le _, rfl, (Below.refl _ _ : Below w5.heap.size w5 w5)⟩
              case round =>
                obtain ⟨i, rfl, hi, rfl, HI⟩ := hrel
                have HB6 : Hid (Below W4.heap.size W4 wr) := HB5.out.trans (HI.out.mono HB5.out.size)
                have f0 := cell_grown d0 HB6.out
                have f1 := cell_grown d1 HB6.out
                have fl := cell_block f0
                by_cases hil : i < m
                · obtain ⟨mb, mo, hmb, hml, _, hmc⟩ := (HCH.out.1.below (Nat.le_refl _) HI.out).one (v := Value.int .i64) (fun _ => rfl) (i := i) (by have := HM.out; omega)
                  subst hmb
                  have hmem : cl.getD i 0 ∈ cl := by rw [List.getD_eq_getElem?_getD, List.getElem?_eq_getElem (by have := HM.out; omega)]; simp
                  obtain ⟨y, hy⟩ : ∃ y, y = cl.getD i 0 := ⟨_, rfl⟩
                  rw [← hy] at hmc hmem
                  have HY : Hid (lookI up y = some (j : Int)) := HCH.out.2 y hmem
                  obtain ⟨dn, hdn⟩ : ∃ d, d = (⟨root, up⟩ : Tr).depth j := ⟨_, rfl⟩
                  have hdl : dn ≤ 12 := by rw [hdn]; have := depth_le (t := ⟨root, up⟩) j; have := HFL.out.1; simp at *; omega
                  have HDN : Hid ((⟨root, up⟩ : Tr).depth j = dn) := hdn.symm
                  have HD : Hid (∀ (m : Int) W, Below wr.heap.size wr W → Calls Try.prog 7 #[.agg #[.int .i64 root, .map (some g)], .int .i64 m] W fun e w' => e = .returned (.int .i64 ((⟨root, up⟩ : Tr).depth m)) ∧ Below wr.heap.size wr w') := fun m W hW =>
                    (depth_any ⟨root, up⟩ g m W ((H4.out.1.below HB6.out).below hW) (by have := HFL.out.1; simp; omega)).mono (fun e w' z => ⟨z.1, hW.trans (z.2.mono hW.size)⟩)
                  clear hy hmem hdn
                  go_upto_region 14 with fail
                  by_cases hd : 0 ≤ dn
                  · have hwr : IntKind.i64.wrap (dn + 1) = dn + 1 := IntWalk.i64_in _ ⟨by omega, by omega⟩
                    have HDC : Hid ((⟨root, up⟩ : Tr).depth y = dn + 1) := by
                      show Tr.depth _ y = _
                      rw [← HDN.out]
                      exact depth_up HOK.out HY.out (by rw [HDN.out]; exact hd)
                    go_cut [71] (fun v wx => v = .bool false ∧ Hid (Below wr.heap.size wr wx))
                    case first =>
                      go_region_held3 (fun W' => W'.cell? ⟨q, 0, none⟩ = some (.int .i64 root) ∧ W'.cell? ⟨q, 1, none⟩ = some (.map (some g)))
                        (first
                          | go_keep
                          | assumption)
                        (first
                          | (go_at_call 7; refine Calls.mono (HD.out _ _ ?_) ?_; first | exact BM.out | exact ⟨rfl, rfl, rfl, Nat.le_refl _, fun _ _ => rfl⟩
                             rintro e wM ⟨rfl, hM⟩; (try rw [HDN.out]); (try rw [HDC.out])
                             have BM : Hid (Below wr.heap.size wr wM) := hM
                             have zm0 := cell_grown f0 hM
                             have zm1 := cell_grown f1 hM
                             have zml := cell_block zm0
                             clear hM))
                      all_goals
                        go_wp2
                        go_meet
                        exact ⟨by simp, BM⟩
                    case rest =>
                      rename World => W7
                      obtain ⟨rfl, HC⟩ := hcut
                      clear f0 f1 fl hmc
                      go_wp2
                      go_roundg (m - (i + 1))
                      case measure => omega
                      case rel => exact ⟨i + 1, by go_num, by omega, rfl, (HI.out.trans (HC.out.mono HI.out.size) : Below w5.heap.size w5 W7)⟩
                  · obtain rfl : dn = -1 := by
                      rw [← HDN.out] at hd ⊢
                      exact depth_neg hd
                    clear hd hdl
                    obtain ⟨ι, F, _, hF0, hFb, hFc⟩ := grown_fam wr
                    have g0 : ∀ i, (F i).cell? ⟨q, 0, none⟩ = _ := fun i => cell_grown f0 (hFb i)
                    have g1 : ∀ i, (F i).cell? ⟨q, 1, none⟩ = _ := fun i => cell_grown f1 (hFb i)
                    have HF : Hid ((∃ i, { wr with drawn := wr.drawn + 1 } = F i) ∧ (∀ i, Below wr.heap.size wr (F i)) ∧ (∀ i W, Below wr.heap.size (F i) W → ∃ j, W = F j)) := ⟨hF0, hFb, hFc⟩
                    have HDF : Hid (∀ i, Calls Try.prog 7 #[.agg #[.int .i64 root, .map (some g)], .int .i64 j] (F i) fun e w' => e = .returned (.int .i64 (-1)) ∧ ∃ k, w' = F k) := fun i =>
                      (depth_any ⟨root, up⟩ g j (F i) ((H4.out.1.below HB6.out).below (hFb i)) (by have := HFL.out.1; simp; omega)).mono (fun e w' z => ⟨by rw [z.1, HDN.out], hFc i w' (z.2.mono (hFb i).size)⟩)
                    clear hF0 hFb hFc
                    go_cut [71] (fun v wx => v = .bool false ∧ Hid (Below wr.heap.size wr wx))
                    case first =>
                      refine wp_region_fam F HF.out.1 (by kernel_rfl) (by kernel_rfl) ?_
                      repeat (go_big_quiet_step ((go_at_call 7; exact HDF.out _)))
                      refine wpQuiet_nil ?_
                      rintro _ ⟨i, rfl⟩
                      have HB7 := HF.out.2.1 i
                      go_wp2
                      go_meet
                      exact ⟨rfl, HB7⟩
                    case rest =>
                      rename World => W7
                      obtain ⟨rfl, HC⟩ := hcut
                      clear f0 f1 fl hmc
                      go_wp2
                      go_roundg (m - (i + 1))
                      case measure => omega
                      case rel => exact ⟨i + 1, by go_num, by omega, rfl, (HI.out.trans (HC.out.mono HI.out.size) : Below w5.heap.size w5 W7)⟩
                · obtain rfl : i = m := by omega
                  clear f0 f1 fl
                  go_wp2
                  go_roundg (n0 - (j + 1))
                  case measure => omega
                  case rel => exact ⟨j + 1, by go_num, by omega, rfl, HB6⟩
            · have HDR : Hid ((⟨root, up⟩ : Tr).depth root = 0) := depth_root (t := ⟨root, up⟩) HR.out
              go_wp2_with (first
                | (go_at_call 5; refine (awake20_any _).mono ?_; rintro e w5 ⟨rfl, b5⟩
                   have g0 := cell_grown f0 b5
                   have g1 := cell_grown f1 b5
                   have gl := cell_block g0
                   have HB5 : Hid (Below W4.heap.size W4 w5) := HB.out.trans (b5.mono HB.out.size)
                   clear b5)
                | (go_at_call 7; refine (depth_any ⟨root, up⟩ g root _ (H4.out.1.below HB5.out) (by have := HFL.out.1; simp; omega)).mono ?_; rintro e w6 ⟨rfl, b6⟩; rw [HDR.out]))
              go_ret
              exact ⟨rfl, H4.out.2.trans ((HB5.out.trans (b6.mono HB5.out.size)).mono H4.out.2.size)⟩

/-! ### The row's step -/
set_option maxRecDepth 100000 in
theorem lifted (os : Os) (started : os.Started) (H : Type) (enc : TypeId × Value → H) :
    ReturnsInHanded {} Try.checked os 3 .any (Rows.treeUpSpec.pre6 enc Try.prog Try.f3 Rows.treeUpRow.domain false) (Rows.treeUpSpec.post enc Try.prog Try.f3 false true false false) := by
  refine returnsInHanded_of_change (C := Try.checked) own started (by kernel_rfl) Try.func3
    (ChangeSpec.witness6 (enc := enc) (C := Try.checked) false ⟨#[], #[.slice none 0 0, .slice none 0 0], []⟩ 8 (by kernel_rfl) (by kernel_rfl) (by kernel_rfl) (by kernel_rfl)) ?_
  intro W base args ds gs before hval0 hW hcnd _
  have hval : ∀ (j : Nat) t v, Try.f3.params[j]? = some t → args[j]? = some v → Value.okWide Try.prog W .any base t v := hval0
  have hW' := hW
  obtain ⟨p, q, hA0, hV, rfl, hfz, hnd⟩ := hW
  have hA : DataW.TrodAll enc Try.prog W 0 (fun _ => true) true Try.f3.params.toList args.toList ds p := hA0
  rw [Try.params3] at hA hval
  obtain ⟨v0, vs0, d0, ds0, p0, q0, hargs, rfl, rfl, h0, r0⟩ := trodAll_cons hA
  obtain ⟨v1, vs1, d1, ds1, p1, q1, rfl, rfl, rfl, h1, r1⟩ := trodAll_cons r0
  obtain ⟨rfl, rfl, rfl⟩ := trodAll_nil r1
  obtain rfl : args = #[v0, v1] := by cases args; simp_all
  obtain ⟨rfl, rfl⟩ := trodVars_none hV
  obtain ⟨a0, len0, cap0, rfl⟩ := okWide_slice Try.underlying22 (hval 0 22 v0 rfl rfl)
  have k0 := h0
  have lt0 : ∀ x ∈ p0, x.block < W.heap.size := by obtain ⟨m, hm⟩ := k0; exact DataW.trod_lt m _ _ _ hm
  have c0 : len0 ≤ cap0 := by
    obtain ⟨fuel, hf⟩ := h0
    exact incap_of Try.underlying22 hf
  obtain ⟨t0, w0⟩ : ∃ ts, InRow 1 encI i64 0 W a0 len0 ts := by
    obtain ⟨fuel, hf⟩ := h0
    exact inrow_of 1 encI i64 0 22 3 Try.underlying22 cellsI1 (by omega) lenI (fun n cs x => int_of n cs x) hf
  obtain ⟨a1, len1, cap1, rfl⟩ := okWide_slice Try.underlying22 (hval 1 22 v1 rfl rfl)
  have k1 := h1
  have lt1 : ∀ x ∈ p1, x.block < W.heap.size := by obtain ⟨m, hm⟩ := k1; exact DataW.trod_lt m _ _ _ hm
  have c1 : len1 ≤ cap1 := by
    obtain ⟨fuel, hf⟩ := h1
    exact incap_of Try.underlying22 hf
  obtain ⟨t1, w1⟩ : ∃ ts, InRow 1 encI i64 0 W a1 len1 ts := by
    obtain ⟨fuel, hf⟩ := h1
    exact inrow_of 1 encI i64 0 22 3 Try.underlying22 cellsI1 (by omega) lenI (fun n cs x => int_of n cs x) hf
  clear hA0 hval0
  refine (walk a0 len0 cap0 t0 a1 len1 cap1 t1 W w0 c0 w1 c1).mono fun e W' ⟨he, bel⟩ => ?_
  subst he
  exact ⟨_, rfl, _, _, _, [], _, [], hW', trodAll_mk1 (shut_bool Try.underlying4 _), (trodAll_cons_mk (Below.trod laidOut (by kernel_rfl) (of_decide_eq_true (by kernel_rfl)) k0 bel lt0) (trodAll_cons_mk (Below.trod laidOut (by kernel_rfl) (of_decide_eq_true (by kernel_rfl)) k1 bel lt1) trodAll_mk0)), rfl, bel.frame _, fun h => by cases h⟩

theorem over : Rows.treeUpRow.holds Try.pinned (OpenSpec.ofChange Rows.treeUpSpec) :=
  OpenClaim.holds_of_wide 3 Try.f3 rfl rfl rfl rfl rfl rfl rfl ⟨rfl, rfl, rfl, rfl, rfl⟩ rfl rfl rfl rfl rfl (by kernel_rfl) Try.func3 (by kernel_rfl)
    (of_decide_eq_true (by kernel_rfl)) (by unfold Func.isWrapper; first | (rw [if_pos (by decide +kernel)]; kernel_rfl) | (rw [if_neg (by decide +kernel)]; exact ⟨rfl, rfl⟩))
    (fun os started H enc _ => lifted os started H enc)

end Go.Proofs.Ytefaigdanoninaa.treeUp

namespace Go.Proofs.Ytefaigdanoninaa
/-- Proved: for every list that says who is next and all members (of each the first 12): whoever tells another one of the tree is one deeper than that, and the root is not deep at all; where there is no tree, that is told; of no members there is none. -/
theorem treeUp_holds : Rows.TreeUpSaid := treeUp.over
#print axioms treeUp_holds
end Go.Proofs.Ytefaigdanoninaa
