/- Proved: for every range cut in two, every number, every text and every cut of it, ValueParts answers true (a range is taken by one of its two parts and by one alone; a prefix by the texts that begin with it).
  The frame is the guide's own shell (proof-skeleton.mjs) at this function; the walk and all ahead of it are mine. -/
import Derived.Test.YtlnmeofdpngofaaRows
import Derived.Test.YtlnmeofdpngofaaValAwake
import Derived.Deep.RegionWith
import Derived.WalkKit
import Derived.WalkLawsBesides
import Derived.ProofKit
import Derived.OpenShut
import Derived.ShutString
namespace Go.Proofs.Ytlnmeofdpngofaa.valueParts
open Go.ChangeShapes Go.WideShapes Go.ChangeAt Go.RowKit
open Go.ChangeMaps (open_string shut_string)
set_option linter.unusedVariables false      -- a walk need not use every 'w<i>' (that an integer argument fits its kind)

theorem own : ownKnob Try.prog.godebug = none := by kernel_rfl


theorem ranges_any (v x : Value) (vs : List Vl) (pay : ByteArray) (lo hi : Int) (w : World) (h : AtIn w v sAz) (hx : VlIn w x vs) (hl : vs.length ≤ 1000) (hp : pay.size ≤ maxLen) (hz : ∀ i, i < vs.length → (vs.getD i vl0).str.size ≤ maxLen) :
    Calls Try.prog 15 #[v, .agg #[x, .string pay], .int .i64 lo, .int .i64 hi] w fun e w' => Says e (MatchOk sAz [⟨sPrice, 1, lo, hi, ByteArray.empty⟩] vs pay.size) ∧ Below w.heap.size w w' := by
  have hc := match_any v (.slice (some ⟨w.heap.size + 1, 0, none⟩) 1 1) x sAz [⟨sPrice, 1, lo, hi, ByteArray.empty⟩] vs pay
    ((w.alloc (.cells #[x, .string pay] 28)).alloc (.cells #[.string sPrice, .int .i64 1, .int .i64 lo, .int .i64 hi, .string ByteArray.empty] 43))
    (h.below (below2 _ _ _)) (one_pd _ ⟨sPrice, 1, lo, hi, ByteArray.empty⟩ _ (by simp)) (hx.below (below2 _ _ _)) (by decide) (by simp) hl hp (sz_pd (Nat.zero_le _)) hz
  have B0 : Hid (Below w.heap.size w ((w.alloc (.cells #[x, .string pay] 28)).alloc (.cells #[.string sPrice, .int .i64 1, .int .i64 lo, .int .i64 hi, .string ByteArray.empty] 43))) := below2 _ _ _
  clear h hx hz
  go_enter Try.func15, Try.ntmps15
  go_wp2_with fail
  refine hc.mono ?_
  rintro e w' ⟨⟨b, rfl, hb⟩, hw⟩
  have HB : Hid (b = true ↔ MatchOk sAz [⟨sPrice, 1, lo, hi, ByteArray.empty⟩] vs pay.size) := hb
  have BW : Hid (Below w.heap.size w w') := B0.out.trans (hw.mono (by simp; omega))
  clear hb hw hc B0
  go_wp2
  go_ret
  exact ⟨⟨_, rfl, HB.out⟩, BW.out⟩
theorem below_drew (w : World) : Below w.heap.size w w.drew := ⟨rfl, rfl, rfl, Nat.le_refl _, fun _ _ => rfl⟩
theorem below_ad (w : World) (o : Obj) : Below w.heap.size w (w.alloc o).drew := (below1 w o).trans ((below_drew _).mono (by simp))
theorem cut_ok {t : ByteArray} {k : Nat} (h : StrOk t) (hk : k ≤ t.size) : StrOk (t.extract 0 k) := by
  refine ⟨fun i hi => ?_, ?_⟩
  · have hi' : i < k := by simp at hi; omega
    have := h.ch i (by omega)
    rw [ByteArray.getElem_extract]
    simpa using this
  · have := h.le; simp; omega
theorem cut_pre (t : ByteArray) (k : Nat) : (t.extract 0 k).data.toList <+: t.data.toList := by
  simp [List.take_prefix]
theorem cut_ne {t : ByteArray} {k : Nat} (h1 : 1 ≤ k) (hk : k ≤ t.size) : t.extract 0 k ≠ ByteArray.empty := fun h => by
  have h1' : (t.extract 0 k).size = ByteArray.empty.size := by rw [h]
  have h2' : (t.extract 0 k).size = k := by simp; omega
  rw [h2'] at h1'
  have h3' : ByteArray.empty.size = 0 := rfl
  omega
/-! ### STEP 1: THE WALK: the Go text returns true. 'Grown w w'': the world has at most new blocks (Derived/RowKit3.lean). Part the cases AHEAD of 'go_enter' where a test parts the walk; take each callee by a contract of your own. -/
set_option maxRecDepth 100000 in
set_option maxHeartbeats 2000000 in
theorem walk (a0 : Int) (a1 : Int) (a2 : Int) (a3 : Int) (a4 : ByteArray) (a5 : Int) (w0 : (Lit.int .i64 a0).wf = true) (w1 : (Lit.int .i64 a1).wf = true) (w2 : (Lit.int .i64 a2).wf = true) (w3 : (Lit.int .i64 a3).wf = true) (w4 : a4.size ≤ maxLen) (w5 : (Lit.int .i64 a5).wf = true) (w : World) :
    Calls Try.prog 4 #[.int .i64 a0, .int .i64 a1, .int .i64 a2, .int .i64 a3, .string a4, .int .i64 a5] w fun e w' => e = .returned (.bool true) ∧ Below w.heap.size w w' := by
  have HM : Hid (a4.size ≤ maxLen) := w4
  have r0 := bounds_i64 w0
  have r1 := bounds_i64 w1
  have r2 := bounds_i64 w2
  by_cases g0 : 0 ≤ a0
  case neg =>
    go_enter Try.func4, Try.ntmps4
    go_wp2_with (go_at_call 11; refine (awake5_any _).mono ?_; rintro e W3 ⟨rfl, b3⟩)
    go_ret
    exact ⟨rfl, b3⟩
  by_cases g1 : a0 ≤ a1
  case neg =>
    go_enter Try.func4, Try.ntmps4
    go_wp2_with (go_at_call 11; refine (awake5_any _).mono ?_; rintro e W3 ⟨rfl, b3⟩)
    go_ret
    exact ⟨rfl, b3⟩
  by_cases g2 : a1 < a2
  case neg =>
    go_enter Try.func4, Try.ntmps4
    go_wp2_with (go_at_call 11; refine (awake5_any _).mono ?_; rintro e W3 ⟨rfl, b3⟩)
    go_ret
    exact ⟨rfl, b3⟩
  by_cases g3 : a2 ≤ 99
  case neg =>
    go_enter Try.func4, Try.ntmps4
    go_wp2_with (go_at_call 11; refine (awake5_any _).mono ?_; rintro e W3 ⟨rfl, b3⟩)
    go_ret
    exact ⟨rfl, b3⟩
  by_cases g4 : 0 ≤ a3
  case neg =>
    go_enter Try.func4, Try.ntmps4
    go_wp2_with (go_at_call 11; refine (awake5_any _).mono ?_; rintro e W3 ⟨rfl, b3⟩)
    go_ret
    exact ⟨rfl, b3⟩
  by_cases g5 : a3 ≤ 99
  case neg =>
    go_enter Try.func4, Try.ntmps4
    go_wp2_with (go_at_call 11; refine (awake5_any _).mono ?_; rintro e W3 ⟨rfl, b3⟩)
    go_ret
    exact ⟨rfl, b3⟩
  by_cases g6 : StrOk a4
  case neg =>
    have HS : Hid (¬ StrOk a4) := g6
    clear g6
    go_enter Try.func4, Try.ntmps4
    go_wp2_with (first
      | (go_at_call 13; refine (str_any _ _ HM.out).mono ?_; rintro e w' ⟨hs, hw'⟩; subst w'; obtain rfl := hs.f HS.out; clear hs)
      | (go_at_call 11; refine (awake5_any _).mono ?_; rintro e W3 ⟨rfl, b3⟩))
    go_ret
    exact ⟨rfl, b3⟩
  have HS : Hid (StrOk a4) := g6
  clear g6
  unfold maxLen at w4
  by_cases g7 : 1 ≤ a5
  case neg =>
    go_enter Try.func4, Try.ntmps4
    go_wp2_with (first
      | (go_at_call 13; refine (str_any _ _ HM.out).mono ?_; rintro e w' ⟨hs, hw'⟩; subst w'; obtain rfl := hs.t HS.out; clear hs)
      | (go_at_call 11; refine (awake5_any _).mono ?_; rintro e W3 ⟨rfl, b3⟩))
    go_ret
    exact ⟨rfl, b3⟩
  by_cases g8 : a5 ≤ a4.size
  case neg =>
    go_enter Try.func4, Try.ntmps4
    go_wp2_with (first
      | (go_at_call 13; refine (str_any _ _ HM.out).mono ?_; rintro e w' ⟨hs, hw'⟩; subst w'; obtain rfl := hs.t HS.out; clear hs)
      | (go_at_call 11; refine (awake5_any _).mono ?_; rintro e W3 ⟨rfl, b3⟩))
    go_ret
    exact ⟨rfl, b3⟩
  obtain ⟨k, rfl⟩ : ∃ k : Nat, a5 = k := ⟨a5.toNat, by omega⟩
  have hk1 : 1 ≤ k := by omega
  have hk2 : k ≤ a4.size := by omega
  have HG : Hid (0 ≤ a0 ∧ a0 ≤ a1 ∧ a1 < a2 ∧ a2 ≤ 99 ∧ 0 ≤ a3 ∧ a3 ≤ 99) := ⟨g0, g1, g2, g3, g4, g5⟩
  go_enter Try.func4, Try.ntmps4
  go_wp2_with (go_at_call 13; refine (str_any _ _ HM.out).mono ?_; rintro e w' ⟨hs, hw'⟩; subst w'; obtain rfl := hs.t HS.out; clear hs)
  refine (sample_any _).mono ?_
  rintro e W1 ⟨rfl, b1, hA⟩
  have HA : Hid (AtIn W1 (.slice (some ⟨w.heap.size, 0, none⟩) 2 2) sAz) := hA
  have B1 : Hid (Below w.heap.size w W1) := b1
  clear b1 hA
  obtain ⟨X, hX⟩ : ∃ X, X = (W1.alloc (.cells #[.int .i64 a3, .string ⟨#[]⟩, .int .i64 0, .string a4] 49)).alloc (.cells #[.slice (some ⟨W1.heap.size, 0, none⟩) 2 2, .string ⟨#[]⟩] 28) := ⟨_, rfl⟩
  have EX : Hid (EvAt X (W1.heap.size + 1) W1.heap.size a3 a4) := by rw [hX]; exact EvAt.new W1 a3 a4
  have BX : Hid (Below W1.heap.size W1 X ∧ X.heap.size = W1.heap.size + 1 + 1) := by rw [hX]; exact ⟨below2 _ _ _, by simp⟩
  go_wp2_with fail
  rw [← hX]
  clear hX
  refine (ranges_any _ _ [⟨a3, ByteArray.empty⟩, ⟨0, a4⟩] _ _ _ _ (HA.out.below BX.out.1) EX.out.vl (by simp) (by decide) (sz_vl HM.out)).mono ?_
  rintro e W2 ⟨hs, b2⟩
  have E2 : Hid (EvAt W2 (W1.heap.size + 1) W1.heap.size a3 a4) := EX.out.below b2
  have B2 : Hid (Below W1.heap.size W1 W2) := BX.out.1.trans (b2.mono BX.out.1.size)
  have hs' := hs.iff (s_range HG.out.2.2.2.2.1 HG.out.2.2.2.2.2 HS.out HG.out.1 (by have := HG.out; omega) HG.out.2.2.2.1)
  clear hs b2 EX BX
  obtain ⟨q, rfl, hq⟩ := hs'
  have HQ : Hid (q = true ↔ a0 ≤ a3 ∧ a3 ≤ a2) := hq
  clear hq
  have hP1 : ∀ e, Says e (MatchOk sAz [⟨sPrice, 1, a0, a1, ByteArray.empty⟩] [⟨a3, ByteArray.empty⟩, ⟨0, a4⟩] 0) → e = .returned (.bool (decide (a0 ≤ a3 ∧ a3 ≤ a1))) := fun e h => by
    obtain ⟨b, rfl, hb⟩ := h.iff (s_range HG.out.2.2.2.2.1 HG.out.2.2.2.2.2 HS.out HG.out.1 HG.out.2.1 (by have := HG.out; omega))
    rw [show b = decide (a0 ≤ a3 ∧ a3 ≤ a1) by rw [Bool.eq_iff_iff, hb, decide_eq_true_eq]]
  have hP2 : ∀ e, Says e (MatchOk sAz [⟨sPrice, 1, a1 + 1, a2, ByteArray.empty⟩] [⟨a3, ByteArray.empty⟩, ⟨0, a4⟩] 0) → e = .returned (.bool (decide (a1 + 1 ≤ a3 ∧ a3 ≤ a2))) := fun e h => by
    obtain ⟨b, rfl, hb⟩ := h.iff (s_range HG.out.2.2.2.2.1 HG.out.2.2.2.2.2 HS.out (by have := HG.out; omega) (by have := HG.out; omega) (by have := HG.out; omega))
    rw [show b = decide (a1 + 1 ≤ a3 ∧ a3 ≤ a2) by rw [Bool.eq_iff_iff, hb, decide_eq_true_eq]]
  obtain ⟨p1, hp1⟩ : ∃ p1, p1 = decide (a0 ≤ a3 ∧ a3 ≤ a1) := ⟨_, rfl⟩
  obtain ⟨p2, hp2⟩ : ∃ p2, p2 = decide (a1 + 1 ≤ a3 ∧ a3 ≤ a2) := ⟨_, rfl⟩
  rw [← hp1] at hP1
  rw [← hp2] at hP2
  have HP1 : Hid _ := hP1
  have HP2 : Hid _ := hP2
  have HX : Hid (q = (p1 != p2) ∧ (p1 && p2) = false) := by
    have : q = decide (a0 ≤ a3 ∧ a3 ≤ a2) := by rw [Bool.eq_iff_iff, HQ.out, decide_eq_true_eq]
    have h := HG.out
    show q = (p1 != p2) ∧ (p1 && p2) = false
    rw [this, hp1, hp2]
    rcases (show a3 < a0 ∨ (a0 ≤ a3 ∧ a3 ≤ a1) ∨ (a1 + 1 ≤ a3 ∧ a3 ≤ a2) ∨ a2 < a3 by omega) with c | c | c | c
    · rw [decide_eq_false (by omega), decide_eq_false (by omega), decide_eq_false (by omega)]; decide
    · rw [decide_eq_true (by omega), decide_eq_true (by omega), decide_eq_false (by omega)]; decide
    · rw [decide_eq_true (by omega), decide_eq_false (by omega), decide_eq_true (by omega)]; decide
    · rw [decide_eq_false (by omega), decide_eq_false (by omega), decide_eq_false (by omega)]; decide
  clear hP1 hP2 hp1 hp2 HQ
  obtain ⟨ι, F, _, hF0, hFb, hFc⟩ := grown_fam W2
  have F0 : ∀ i, (F i).cell? ⟨W1.heap.size + 1, 0, none⟩ = some (.slice (some ⟨W1.heap.size, 0, none⟩) 2 2) := fun i => cell_grown E2.out.c0 (hFb i)
  have F1 : ∀ i, (F i).cell? ⟨W1.heap.size + 1, 1, none⟩ = some (.string ⟨#[]⟩) := fun i => cell_grown E2.out.c1 (hFb i)
  have HF : Hid ((∃ i, { W2 with drawn := W2.drawn + 1 } = F i) ∧ (∀ i, Below W2.heap.size W2 (F i)) ∧ (∀ i W, Below W2.heap.size (F i) W → ∃ j, W = F j)) := ⟨hF0, hFb, hFc⟩
  clear hF0 hFb hFc
  go_wp2_with fail
  refine wp_region_fam F HF.out.1 (by kernel_rfl) (by kernel_rfl) ?_
  repeat (go_big_quiet_step (first
    | (go_at_call_of 15 (Value.int IntKind.i64 a1); refine (ranges_any _ _ [⟨a3, ByteArray.empty⟩, ⟨0, a4⟩] _ _ _ _ ((HA.out.below B2.out).below (HF.out.2.1 _)) (E2.out.vl.below (HF.out.2.1 _)) (by simp) (by decide) (sz_vl HM.out)).mono ?_; rintro e' w' ⟨hs, hb⟩; exact ⟨by first | exact HP1.out _ hs | exact HP2.out _ hs, HF.out.2.2 _ _ (hb.mono (HF.out.2.1 _).size)⟩)
    | (go_at_call 15; refine (ranges_any _ _ [⟨a3, ByteArray.empty⟩, ⟨0, a4⟩] _ _ _ _ ((HA.out.below B2.out).below (HF.out.2.1 _)) (E2.out.vl.below (HF.out.2.1 _)) (by simp) (by decide) (sz_vl HM.out)).mono ?_; rintro e' w' ⟨hs, hb⟩; exact ⟨by first | exact HP1.out _ hs | exact HP2.out _ hs, HF.out.2.2 _ _ (hb.mono (HF.out.2.1 _).size)⟩)))
  refine wpQuiet_nil ?_
  rintro _ ⟨i, rfl⟩
  have E3 : Hid (EvAt (F i) (W1.heap.size + 1) W1.heap.size a3 a4) := E2.out.below (HF.out.2.1 i)
  have B3 : Hid (Below W1.heap.size W1 (F i)) := B2.out.trans ((HF.out.2.1 i).mono B2.out.size)
  generalize F i = W3 at E3 B3
  clear F0 F1 HF B2 E2
  have d0 := E3.out.c0
  have d1 := E3.out.c1
  have d2 := E3.out.lt
  go_wp2_with fail
  refine (match_any _ _ _ sAz [⟨sTag, 2, 0, 0, a4⟩] [⟨a3, ByteArray.empty⟩, ⟨0, a4⟩] _ _ ((HA.out.below B3.out).below (below1 _ _)) (one_pd W3 ⟨sTag, 2, 0, 0, a4⟩ _ rfl) (E3.out.vl.below (below1 _ _)) (by decide) (by simp) (by simp) (by decide) (sz_pd HM.out) (sz_vl HM.out)).mono ?_
  rintro e W4 ⟨hs, b4⟩
  obtain rfl := hs.t ((s_eq HG.out.2.2.2.2.1 HG.out.2.2.2.2.2 HS.out HS.out).mpr rfl)
  have b4' : Below W3.heap.size W3 W4 := (below1 _ _).trans (b4.mono (by simp))
  have E4 : Hid (EvAt W4 (W1.heap.size + 1) W1.heap.size a3 a4) := E3.out.below b4'
  have B4 : Hid (Below W1.heap.size W1 W4) := B3.out.trans (b4'.mono B3.out.size)
  clear hs b4 b4' E3 B3 d0 d1 d2
  have d0 := E4.out.c0
  have d1 := E4.out.c1
  have d2 := E4.out.lt
  have HK : Hid (StrOk (a4.extract 0 k) ∧ (a4.extract 0 k).size ≤ maxLen ∧ MatchOk sAz [⟨sTag, 3, 0, 0, a4.extract 0 k⟩] [⟨a3, ByteArray.empty⟩, ⟨0, a4⟩] 0) := by
    have h1 := cut_ok HS.out hk2
    refine ⟨h1, ?_, (s_pre HG.out.2.2.2.2.1 HG.out.2.2.2.2.2 h1 HS.out (cut_ne hk1 hk2)).mpr (cut_pre _ _)⟩
    have := h1.le
    unfold maxLen
    omega
  go_wp2_with fail
  go_region_with (go_at_call 12
                  refine (match_any _ _ _ sAz [⟨sTag, 3, 0, 0, a4.extract 0 k⟩] [⟨a3, ByteArray.empty⟩, ⟨0, a4⟩] _ _ ((HA.out.below B4.out).below (below_ad _ _)) ((one_pd W4 ⟨sTag, 3, 0, 0, a4.extract 0 k⟩ _ rfl).below (below_drew _)) (E4.out.vl.below (below_ad _ _)) (by decide) (by simp) (by simp) (by decide) (sz_pd HK.out.2.1) (sz_vl HM.out)).mono ?_
                  rintro e W5 ⟨hs, b5⟩
                  obtain rfl := hs.t HK.out.2.2)
  all_goals
    have B5 : Hid (Below w.heap.size w W5) := (B1.out.trans (B4.out.mono B1.out.size)).trans (((below_ad _ _).trans (b5.mono (below_ad _ _).size)).mono (by have := B1.out.size; have := B4.out.size; omega))
    clear hs b5 d0 d1 d2
    obtain ⟨hq, hpp⟩ := HX.out
    subst hq
    cases p1 <;> cases p2
    all_goals first
      | (exfalso; simp at hpp; done)
      | (clear hpp HX
         go_wp2_with fail
         refine (awake5_any _).mono ?_
         rintro e W6 ⟨rfl, b6⟩
         have B6 : Hid (Below w.heap.size w W6) := B5.out.trans (b6.mono B5.out.size)
         clear b6
         go_wp2
         go_ret
         exact ⟨rfl, B6.out⟩)

/-! ### THE ROW's STEP: WRITTEN OUT: LEAVE IT -/
set_option maxRecDepth 100000 in
theorem lifted (os : Os) (started : os.Started) (H : Type) (enc : TypeId × Value → H) :
    ReturnsInHanded {} Try.checked os 4 .any (Rows.valuePartsSpec.pre6 enc Try.prog Try.f4 Rows.valuePartsRow.domain false) (Rows.valuePartsSpec.post enc Try.prog Try.f4 false true false false) := by
  refine returnsInHanded_of_change (C := Try.checked) own started (by kernel_rfl) Try.func4
    (ChangeSpec.witness6 (enc := enc) (C := Try.checked) false ⟨#[], #[.int .i64 0, .int .i64 0, .int .i64 0, .int .i64 0, .string ByteArray.empty, .int .i64 0], []⟩ 8 (by kernel_rfl) (by kernel_rfl) (by kernel_rfl) (by kernel_rfl)) ?_
  intro W base args ds gs before hval0 hW hcnd _
  have hval : ∀ (j : Nat) t v, Try.f4.params[j]? = some t → args[j]? = some v → Value.okWide Try.prog W .any base t v := hval0
  have hW' := hW
  obtain ⟨p, q, hA0, hV, rfl, hfz, hnd⟩ := hW
  have hA : DataW.TrodAll enc Try.prog W 0 (fun _ => true) true Try.f4.params.toList args.toList ds p := hA0
  rw [Try.params4] at hA hval
  obtain ⟨v0, vs0, d0, ds0, p0, q0, hargs, rfl, rfl, h0, r0⟩ := trodAll_cons hA
  obtain ⟨v1, vs1, d1, ds1, p1, q1, rfl, rfl, rfl, h1, r1⟩ := trodAll_cons r0
  obtain ⟨v2, vs2, d2, ds2, p2, q2, rfl, rfl, rfl, h2, r2⟩ := trodAll_cons r1
  obtain ⟨v3, vs3, d3, ds3, p3, q3, rfl, rfl, rfl, h3, r3⟩ := trodAll_cons r2
  obtain ⟨v4, vs4, d4, ds4, p4, q4, rfl, rfl, rfl, h4, r4⟩ := trodAll_cons r3
  obtain ⟨v5, vs5, d5, ds5, p5, q5, rfl, rfl, rfl, h5, r5⟩ := trodAll_cons r4
  obtain ⟨rfl, rfl, rfl⟩ := trodAll_nil r5
  obtain rfl : args = #[v0, v1, v2, v3, v4, v5] := by cases args; simp_all
  obtain ⟨rfl, rfl⟩ := trodVars_none hV
  obtain ⟨a0, rfl, rfl, rfl, w0⟩ := open_int Try.underlying3 (hval 0 3 v0 rfl rfl) h0
  obtain ⟨a1, rfl, rfl, rfl, w1⟩ := open_int Try.underlying3 (hval 1 3 v1 rfl rfl) h1
  obtain ⟨a2, rfl, rfl, rfl, w2⟩ := open_int Try.underlying3 (hval 2 3 v2 rfl rfl) h2
  obtain ⟨a3, rfl, rfl, rfl, w3⟩ := open_int Try.underlying3 (hval 3 3 v3 rfl rfl) h3
  obtain ⟨a4, rfl, rfl, rfl, w4⟩ := open_string Try.underlying9 (hval 4 9 v4 rfl rfl) h4
  obtain ⟨a5, rfl, rfl, rfl, w5⟩ := open_int Try.underlying3 (hval 5 3 v5 rfl rfl) h5
  clear hA0 hval0
  simp only [List.append_nil] at hW'
  refine (walk a0 a1 a2 a3 a4 a5 w0 w1 w2 w3 w4 w5 W).mono fun e W' ⟨he, bel⟩ => ?_
  subst he
  exact ⟨_, rfl, _, _, _, [], [], [], hW', trodAll_mk1 (shut_bool Try.underlying4 _), (trodAll_cons_mk (shut_int Try.underlying3 w0) (trodAll_cons_mk (shut_int Try.underlying3 w1) (trodAll_cons_mk (shut_int Try.underlying3 w2) (trodAll_cons_mk (shut_int Try.underlying3 w3) (trodAll_cons_mk (shut_string Try.underlying9 w4) (trodAll_cons_mk (shut_int Try.underlying3 w5) trodAll_mk0)))))), rfl, bel.frame _, fun h => by cases h⟩

theorem over : Rows.valuePartsRow.holds Try.pinned (OpenSpec.ofChange Rows.valuePartsSpec) :=
  OpenClaim.holds_of_wide 4 Try.f4 rfl rfl rfl rfl rfl rfl rfl ⟨rfl, rfl, rfl, rfl, rfl⟩ rfl rfl rfl rfl rfl (by kernel_rfl) Try.func4 (by kernel_rfl)
    (of_decide_eq_true (by kernel_rfl)) (by unfold Func.isWrapper; first | (rw [if_pos (by decide +kernel)]; kernel_rfl) | (rw [if_neg (by decide +kernel)]; exact ⟨rfl, rfl⟩))
    (fun os started H enc _ => lifted os started H enc)

end Go.Proofs.Ytlnmeofdpngofaa.valueParts

namespace Go.Proofs.Ytlnmeofdpngofaa
/-- Proved: for every range cut in two, every number, every text and every cut of it, ValueParts answers true (a range is taken by one of its two parts and by one alone; a prefix by the texts that begin with it). -/
theorem valueParts_holds : Rows.ValuePartsSaid := valueParts.over
#print axioms valueParts_holds
end Go.Proofs.Ytlnmeofdpngofaa
