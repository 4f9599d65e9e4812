/- For every world of addresses and every list: the head is the first that lives, none ahead of it does; a list without one that lives has none.
  The frame is the guide's own shell (proof-skeleton.mjs) at this function; the walk and all ahead of it are mine. -/
import Derived.Test.YthniahbbnknkoaaRows
import Derived.Test.YthniahbbnknkoaaPrAwake
import Derived.Deep.LoopGhost
import Derived.WalkKit
import Derived.WalkLawsBesides
import Derived.ProofKit
import Derived.OpenShut
import Derived.ShutString
import Derived.ChangeOld
import Derived.Below
namespace Go.Proofs.Ythniahbbnknkoaa.peerHeads
open Go.ChangeShapes Go.WideShapes Go.ChangeAt Go.RowKit
open Go.ChangeMaps (open_string shut_string)
set_option linter.unusedVariables false

theorem own : ownKnob Try.prog.godebug = none := by kernel_rfl
theorem laidOut : laidOutB Try.prog = true := by kernel_rfl


theorem head_first {lv : List Bool} {l : List Int} {j : Nat} (hj : j < l.length) (h : ∀ i, i < j → livesB lv (l.getD i 0) = false) (hx : livesB lv (l.getD j 0) = true) : headI lv l = l.getD j 0 := by
  induction l generalizing j with
  | nil => simp at hj
  | cons a l ih =>
    cases j with
    | zero => simp [List.getD] at hx; simp [headI, hx, List.getD]
    | succ j =>
      have h0 := h 0 (by omega)
      simp [List.getD] at h0
      simp only [headI, h0]
      exact ih (j := j) (by simpa using hj) (fun i hi => by have := h (i + 1) (by omega); simpa [List.getD] using this) (by simpa [List.getD] using hx)
theorem head_none {lv : List Bool} {l : List Int} (h : ∀ i, i < l.length → livesB lv (l.getD i 0) = false) : headI lv l = -1 := by
  induction l with
  | nil => rfl
  | cons a l ih =>
    have h0 := h 0 (by simp)
    simp [List.getD] at h0
    simp only [headI, h0]
    exact ih (fun i hi => by have := h (i + 1) (by simpa using hi); simpa [List.getD] using this)
theorem head_lives (lv : List Bool) (l : List Int) : headI lv l = -1 ∨ livesB lv (headI lv l) = true := by
  induction l with
  | nil => exact .inl rfl
  | cons a l ih =>
    cases h : livesB lv a
    · simp only [headI, h]; exact ih
    · simp only [headI, h]; exact .inr (by simp [h])
theorem head_i64 {w : World} {a : Option Addr} {n : Nat} {lv : List Bool} {l : List Int} (h : InIn w a n l) : i64 (headI lv l) := by
  have h1 := ints_ok h
  clear h
  induction l with
  | nil => simp [headI, i64]
  | cons a l ih =>
    cases q : livesB lv a
    · simp only [headI, q]; exact ih (fun x hx => h1 x (List.mem_cons_of_mem _ hx))
    · simp only [headI, q]; exact h1 a (List.mem_cons_self ..)
/-! ### STEP 1: the walk -/
set_option maxRecDepth 100000 in
set_option maxHeartbeats 2000000 in
theorem walk (a0 : Option Addr) (len0 cap0 : Nat) (lv0 : List Bool) (b0 : Option Addr) (ln0 cp0 : Nat) (ids0 : List Int) (a1 : Option Addr) (len1 cap1 : Nat) (t1 : List Int) (w : World) (w0 : LvIn w a0 len0 lv0) (z0 : IdIn w b0 ln0 ids0) (w1 : InRow 1 encI i64 0 w a1 len1 t1) :
    Calls Try.prog 6 #[.agg #[.slice a0 len0 cap0, .slice b0 ln0 cp0], .slice a1 len1 cap1] w fun e w' => e = .returned (.bool true) ∧ Below w.heap.size w w' := by
  have HV : Hid (LvIn w a0 len0 lv0) := w0
  have HI : Hid (IdIn w b0 ln0 ids0) := z0
  have HL : Hid (InIn w a1 len1 t1) := w1
  have HN : Hid (t1.length = len1) := w1.1
  have hm0 := w0.2.1
  have hm1 := w1.2.1
  obtain ⟨W1, hW1⟩ : ∃ W1, W1 = w.alloc (.cells #[.slice a0 len0 cap0, .slice b0 ln0 cp0] 25) := ⟨_, rfl⟩
  have b1 : Hid (Below w.heap.size w W1 ∧ W1.heap.size = w.heap.size + 1) := ⟨by rw [hW1]; exact below_one _ _, by rw [hW1]; simp⟩
  have c0 : W1.cell? ⟨w.heap.size, 0, none⟩ = some (.slice a0 len0 cap0) := by rw [hW1]; simp
  have c1 : W1.cell? ⟨w.heap.size, 1, none⟩ = some (.slice b0 ln0 cp0) := by rw [hW1]; simp
  have HC : Hid (W1.cell? ⟨w.heap.size, 0, none⟩ = some (.slice a0 len0 cap0) ∧ W1.cell? ⟨w.heap.size, 1, none⟩ = some (.slice b0 ln0 cp0)) := ⟨c0, c1⟩
  clear w0 z0 w1 c0 c1
  by_cases q0 : 40 < len0
  · clear hW1
    go_enter Try.func6, Try.ntmps6
    go_wp2_with (go_at_call 7; refine (awake9_any _).mono ?_; rintro e w' ⟨rfl, hb⟩)
    go_ret
    exact ⟨rfl, (below_one _ _).trans (hb.mono (by simp))⟩
  · by_cases q1 : 20 < len1
    · clear hW1
      go_enter Try.func6, Try.ntmps6
      go_wp2_with (go_at_call 7; refine (awake9_any _).mono ?_; rintro e w' ⟨rfl, hb⟩)
      go_ret
      exact ⟨rfl, (below_one _ _).trans (hb.mono (by simp))⟩
    · go_enter Try.func6, Try.ntmps6
      go_wp2_with fail
      rw [← hW1]
      clear hW1
      refine (head_any _ _ _ _ _ t1 _ _ _ _ lv0 _ (HL.out.below (Nat.le_refl _) b1.out.1) (HV.out.below (Nat.le_refl _) b1.out.1)).mono ?_
      rintro e w2 ⟨rfl, hb⟩
      have H2 : Hid (Below W1.heap.size W1 w2) := hb
      clear hb
      obtain ⟨h, hh⟩ : ∃ h, headI lv0 t1 = h := ⟨_, rfl⟩
      have HH : Hid (headI lv0 t1 = h) := hh
      rw [hh]
      clear hh
      go_wp2
      go_loopg [25] len1 (fun kx s wr => ∃ k : Nat, s = .int .i64 k ∧ k ≤ len1 ∧ kx = len1 - k ∧ Hid (Below W1.heap.size W1 wr) ∧ Hid (∀ i, i < k → livesB lv0 (t1.getD i 0) = false))
      case atStart => exact ⟨0, rfl, Nat.zero_le _, rfl, H2.out, (fun i hi => absurd hi (Nat.not_lt_zero _) : ∀ i, i < 0 → livesB lv0 (t1.getD i 0) = false)⟩
      case round =>
        obtain ⟨k, rfl, hk, rfl, HB, I⟩ := hrel
        have BW : Hid (Below w.heap.size w wr) := b1.out.1.trans (HB.out.mono b1.out.1.size)
        by_cases hlt : k < len1
        · obtain ⟨b, o, rfl, hb, hx, hc⟩ := (HL.out.below (Nat.le_refl _) BW.out).one (v := Value.int .i64) (fun _ => rfl) (i := k) hlt
          have y0 := cell_grown HC.out.1 HB.out
          have y1 := cell_grown HC.out.2 HB.out
          have hz : w.heap.size < wr.heap.size := by have := HB.out.size; have := b1.out.2; omega
          have HX : Hid (i64 (t1.getD k 0)) := hx
          clear hx
          cases hq : livesB lv0 (t1.getD k 0)
          · have I' : Hid (∀ i, i < k + 1 → livesB lv0 (t1.getD i 0) = false) := fun i hi => by
              by_cases e : i = k
              · rw [e]; exact hq
              · exact I.out i (by omega)
            have hne : h = -1 ∨ t1.getD k 0 ≠ h := by
              rcases head_lives lv0 t1 with e | e
              · exact .inl (HH.out.symm.trans e)
              · refine .inr fun e' => ?_
                rw [HH.out, ← e', hq] at e
                cases e
            generalize t1.getD k 0 = x at hc HX hq hne
            have HQ : Hid _ := hq
            clear hq
            rcases hne with hne | hne
            · subst hne
              go_wp2_with (go_at_call 8; refine (lives_w _ _ _ _ _ _ _ (HV.out.below (Nat.le_refl _) BW.out) HX.out).mono ?_; rintro e w' ⟨rfl, hb'⟩; rw [HQ.out])
              go_roundg (len1 - (k + 1))
              case measure => omega
              case rel => exact ⟨k + 1, by go_num, by omega, rfl, HB.out.trans (hb'.mono HB.out.size), I'⟩
            · have hn1 : (x == h) = false := by simpa using hne
              by_cases hm : h = -1
              · subst hm
                go_wp2_with (go_at_call 8; refine (lives_w _ _ _ _ _ _ _ (HV.out.below (Nat.le_refl _) BW.out) HX.out).mono ?_; rintro e w' ⟨rfl, hb'⟩; rw [HQ.out])
                go_roundg (len1 - (k + 1))
                case measure => omega
                case rel => exact ⟨k + 1, by go_num, by omega, rfl, HB.out.trans (hb'.mono HB.out.size), I'⟩
              · go_wp2_with (go_at_call 8; refine (lives_w _ _ _ _ _ _ _ (HV.out.below (Nat.le_refl _) BW.out) HX.out).mono ?_; rintro e w' ⟨rfl, hb'⟩; rw [HQ.out])
                go_roundg (len1 - (k + 1))
                case measure => omega
                case rel => exact ⟨k + 1, by go_num, by omega, rfl, HB.out.trans (hb'.mono HB.out.size), I'⟩
          · have hxh : t1.getD k 0 = h := (head_first (by rw [HN.out]; exact hlt) I.out hq).symm.trans HH.out
            rw [hxh] at hc HX hq
            have hpos := lives_in hq
            have HQ : Hid _ := hq
            have hm : ¬ h = -1 := by omega
            clear hq hxh
            have hm1 : (h != -1) = true := by simpa using hm
            have hm2 : (h == h) = true := by simp
            go_wp2_with (first
              | (go_at_call 7; refine (awake9_any _).mono ?_; rintro e w' ⟨rfl, hb'⟩; have BX : Hid (Below w.heap.size w w') := BW.out.trans (hb'.mono BW.out.size); have HB3 : Hid (Below W1.heap.size W1 w') := HB.out.trans (hb'.mono HB.out.size); have y0 := cell_grown HC.out.1 HB3.out; have y1 := cell_grown HC.out.2 HB3.out; have hz : w.heap.size < w'.heap.size := by { have := hb'.size; omega })
              | (go_at_call 8; refine (lives_w _ _ _ _ _ _ _ (HV.out.below (Nat.le_refl _) BX.out) HX.out).mono ?_; rintro e w'' ⟨rfl, hb''⟩; rw [HQ.out]))
            go_ret
            exact ⟨rfl, BX.out.trans (hb''.mono BX.out.size)⟩
        · have hm : h = -1 := HH.out.symm.trans (head_none fun i hi => I.out i (by have := HN.out; omega))
          subst hm
          go_wp2_with (go_at_call 7; refine (awake9_any _).mono ?_; rintro e w' ⟨rfl, hb'⟩)
          go_ret
          exact ⟨rfl, BW.out.trans (hb'.mono BW.out.size)⟩

/-! ### The row's step -/
set_option maxRecDepth 100000 in
theorem lifted (os : Os) (started : os.Started) (H : Type) (enc : TypeId × Value → H) :
    ReturnsInHanded {} Try.checked os 6 .any (Rows.peerHeadsSpec.pre6 enc Try.prog Try.f6 Rows.peerHeadsRow.domain false) (Rows.peerHeadsSpec.post enc Try.prog Try.f6 false true false false) := by
  refine returnsInHanded_of_change (C := Try.checked) own started (by kernel_rfl) Try.func6
    (ChangeSpec.witness6 (enc := enc) (C := Try.checked) false ⟨#[], #[.agg #[.slice none 0 0, .slice none 0 0], .slice none 0 0], []⟩ 8 (by kernel_rfl) (by kernel_rfl) (by kernel_rfl) (by kernel_rfl)) ?_
  intro W base args ds gs before hval0 hW hcnd _
  have hval : ∀ (j : Nat) t v, Try.f6.params[j]? = some t → args[j]? = some v → Value.okWide Try.prog W .any base t v := hval0
  have hW' := hW
  obtain ⟨p, q, hA0, hV, rfl, hfz, hnd⟩ := hW
  have hA : DataW.TrodAll enc Try.prog W 0 (fun _ => true) true Try.f6.params.toList args.toList ds p := hA0
  rw [Try.params6] at hA hval
  obtain ⟨v0, vs0, d0, ds0, p0, q0, hargs, rfl, rfl, h0, r0⟩ := trodAll_cons hA
  obtain ⟨v1, vs1, d1, ds1, p1, q1, rfl, rfl, rfl, h1, r1⟩ := trodAll_cons r0
  obtain ⟨rfl, rfl, rfl⟩ := trodAll_nil r1
  obtain rfl : args = #[v0, v1] := by cases args; simp_all
  obtain ⟨rfl, rfl⟩ := trodVars_none hV
  obtain ⟨cs0, rfl, hcs0⟩ := okWide_struct Try.underlying25 (hval 0 25 v0 rfl rfl)
  have k0 := h0
  have lt0 : ∀ x ∈ p0, x.block < W.heap.size := by obtain ⟨m, hm⟩ := k0; exact DataW.trod_lt m _ _ _ hm
  obtain ⟨fuel0, hf0⟩ := h0
  obtain ⟨a0, len0, cap0, lv0, b0, ln0, cp0, ids0, rfl, w0, z0⟩ := wd_of hcs0 hf0
  obtain ⟨a1, len1, cap1, rfl⟩ := okWide_slice Try.underlying28 (hval 1 28 v1 rfl rfl)
  have k1 := h1
  have lt1 : ∀ x ∈ p1, x.block < W.heap.size := by obtain ⟨m, hm⟩ := k1; exact DataW.trod_lt m _ _ _ hm
  obtain ⟨t1, w1⟩ : ∃ ts, InRow 1 encI i64 0 W a1 len1 ts := by
    obtain ⟨fuel, hf⟩ := h1
    exact inrow_of 1 encI i64 0 28 3 Try.underlying28 cellsI1 (by omega) lenI (fun n cs x => int_of n cs x) hf
  clear hA0 hval0
  refine (walk a0 len0 cap0 lv0 b0 ln0 cp0 ids0 a1 len1 cap1 t1 W w0 z0 w1).mono fun e W' ⟨he, bel⟩ => ?_
  subst he
  exact ⟨_, rfl, _, _, _, [], _, [], hW', trodAll_mk1 (shut_bool Try.underlying4 _), (trodAll_cons_mk (Below.trod laidOut (by kernel_rfl) (of_decide_eq_true (by kernel_rfl)) k0 bel lt0) (trodAll_cons_mk (Below.trod laidOut (by kernel_rfl) (of_decide_eq_true (by kernel_rfl)) k1 bel lt1) trodAll_mk0)), rfl, bel.frame _, fun h => by cases h⟩

theorem over : Rows.peerHeadsRow.holds Try.pinned (OpenSpec.ofChange Rows.peerHeadsSpec) :=
  OpenClaim.holds_of_wide 6 Try.f6 rfl rfl rfl rfl rfl rfl rfl ⟨rfl, rfl, rfl, rfl, rfl⟩ rfl rfl rfl rfl rfl (by kernel_rfl) Try.func6 (by kernel_rfl)
    (of_decide_eq_true (by kernel_rfl)) (by unfold Func.isWrapper; first | (rw [if_pos (by decide +kernel)]; kernel_rfl) | (rw [if_neg (by decide +kernel)]; exact ⟨rfl, rfl⟩))
    (fun os started H enc _ => lifted os started H enc)

end Go.Proofs.Ythniahbbnknkoaa.peerHeads

namespace Go.Proofs.Ythniahbbnknkoaa
/-- For every world of addresses and every list: the head is the first that lives, none ahead of it does; a list without one that lives has none. -/
theorem peerHeads_holds : Rows.PeerHeadsSaid := peerHeads.over
#print axioms peerHeads_holds
end Go.Proofs.Ythniahbbnknkoaa
