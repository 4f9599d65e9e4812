/- Proved: for every two texts, ValueExact answers true (Eq takes just the one text, a prefix of all its bytes it too).
  The frame is the guide's own shell (proof-skeleton.mjs) at this function; the walk and all ahead of it are mine. -/
import Derived.Test.YtlnmeofdpngofaaRows
import Derived.Test.YtlnmeofdpngofaaValAwake
import Derived.WalkKit
import Derived.WalkLawsBesides
import Derived.ProofKit
import Derived.OpenShut
import Derived.ShutString
namespace Go.Proofs.Ytlnmeofdpngofaa.valueExact
open Go.ChangeShapes Go.WideShapes Go.ChangeAt Go.RowKit
open Go.ChangeMaps (open_string shut_string)
set_option linter.unusedVariables false      -- a walk need not use every 'w<i>' (that an integer argument fits its kind)

theorem own : ownKnob Try.prog.godebug = none := by kernel_rfl


theorem pre_len {t u : ByteArray} (h : t.data.toList <+: u.data.toList) : (t.size : Int) ≤ (u.size : Int) := by
  have := h.length_le; simp at this; omega
/-! ### STEP 1: THE WALK: the Go text returns true. 'Grown w w'': the world has at most new blocks (Derived/RowKit3.lean). Part the cases AHEAD of 'go_enter' where a test parts the walk; take each callee by a contract of your own. -/
set_option maxRecDepth 100000 in
set_option maxHeartbeats 2000000 in
theorem walk (a0 : ByteArray) (a1 : ByteArray) (w0 : a0.size ≤ maxLen) (w1 : a1.size ≤ maxLen) (w : World) :
    Calls Try.prog 6 #[.string a0, .string a1] w fun e w' => e = .returned (.bool true) ∧ Below w.heap.size w w' := by
  have HM : Hid (a0.size ≤ maxLen ∧ a1.size ≤ maxLen) := ⟨w0, w1⟩
  by_cases ht : StrOk a0
  · by_cases hu : StrOk a1
    · have HS : Hid (StrOk a0 ∧ StrOk a1) := ⟨ht, hu⟩
      clear ht hu
      unfold maxLen at w0 w1
      go_enter Try.func6, Try.ntmps6
      go_wp2_with fail
      refine (str_any _ _ HM.out.1).mono ?_
      rintro e w' ⟨hs, hw'⟩
      subst w'
      obtain rfl := hs.t HS.out.1
      clear hs
      go_wp2_with fail
      refine (str_any _ _ HM.out.2).mono ?_
      rintro e w' ⟨hs, hw'⟩
      subst w'
      obtain rfl := hs.t HS.out.2
      clear hs
      go_wp2_with fail
      refine (sample_any _).mono ?_
      rintro e W1 ⟨rfl, b1, hA⟩
      have HA : Hid (AtIn W1 (.slice (some ⟨w.heap.size, 0, none⟩) 2 2) sAz) := hA
      have B1 : Hid (Below w.heap.size w W1) := b1
      clear b1 hA
      obtain ⟨X, hX⟩ : ∃ X, X = (W1.alloc (.cells #[.int .i64 0, .string ⟨#[]⟩, .int .i64 0, .string a1] 49)).alloc (.cells #[.slice (some ⟨W1.heap.size, 0, none⟩) 2 2, .string ⟨#[]⟩] 28) := ⟨_, rfl⟩
      have EX : Hid (EvAt X (W1.heap.size + 1) W1.heap.size 0 a1) := by rw [hX]; exact EvAt.new W1 0 a1
      have BX : Hid (Below W1.heap.size W1 X ∧ X.heap.size = W1.heap.size + 1 + 1) := by rw [hX]; exact ⟨below2 _ _ _, by simp⟩
      go_wp2_with fail
      rw [← hX]
      clear hX
      refine (match_any _ _ _ sAz [⟨sTag, 2, 0, 0, a0⟩] [⟨0, ByteArray.empty⟩, ⟨0, a1⟩] _ _ ((HA.out.below BX.out.1).below (below1 _ _)) (one_pd X ⟨sTag, 2, 0, 0, a0⟩ _ BX.out.2.symm) (EX.out.vl.below (below1 _ _)) (by decide) (by simp) (by simp) (by decide) (sz_pd HM.out.1) (sz_vl HM.out.2)).mono ?_
      rintro e W2 ⟨hs, b2⟩
      have bx : Below X.heap.size X W2 := (below1 _ _).trans (b2.mono (by simp))
      have E2 : Hid (EvAt W2 (W1.heap.size + 1) W1.heap.size 0 a1) := EX.out.below bx
      have B2 : Hid (Below W1.heap.size W1 W2) := BX.out.1.trans (bx.mono BX.out.1.size)
      have d0 := E2.out.c0
      have d1 := E2.out.c1
      have z2 := E2.out.lt
      clear bx
      have hs' := hs.iff (s_eq (by decide) (by decide) HS.out.1 HS.out.2)
      obtain ⟨q, rfl, hq⟩ := hs'
      have HQ : Hid (q = true ↔ a1 = a0) := hq
      clear hs hq b2 EX BX
      have BB : Hid (Below w.heap.size w W2) := B1.out.trans (B2.out.mono B1.out.size)
      by_cases hEq : a1 = a0
      · obtain rfl : q = true := HQ.out.mpr hEq
        subst hEq
        by_cases he : a1.toList = []
        · have he' : (a1.toList == []) = true := by simpa using he
          go_wp2_with fail
          refine (awake5_any _).mono ?_
          rintro e W4 ⟨rfl, b4⟩
          have B4 : Hid (Below w.heap.size w W4) := BB.out.trans (b4.mono BB.out.size)
          clear b4
          go_wp2
          all_goals (go_ret; exact ⟨by rfl, B4.out⟩)
        · have hne' : Hid (a1 ≠ ByteArray.empty) := fun h => he ((empty_list a1).mpr h)
          have he' : (a1.toList == []) = false := by simpa using he
          go_wp2_with fail
          refine (match_any _ _ _ sAz [⟨sTag, 3, 0, 0, a1⟩] [⟨0, ByteArray.empty⟩, ⟨0, a1⟩] _ _ ((HA.out.below B2.out).below (below1 _ _)) (one_pd W2 ⟨sTag, 3, 0, 0, a1⟩ _ rfl) (E2.out.vl.below (below1 _ _)) (by decide) (by simp) (by simp) (by decide) (sz_pd HM.out.1) (sz_vl HM.out.2)).mono ?_
          rintro e W3 ⟨hs, b3⟩
          have B3 : Hid (Below W2.heap.size W2 W3) := (below1 _ _).trans (b3.mono (by simp))
          obtain ⟨p, rfl, hp⟩ := hs.iff (s_pre (by decide) (by decide) HS.out.1 HS.out.2 hne'.out)
          have HP : Hid (p = true ↔ a1.data.toList <+: a1.data.toList) := hp
          clear hs hp b3
          obtain rfl : p = true := HP.out.mpr (List.prefix_refl _)
          have BB2 : Hid (Below w.heap.size w W3) := BB.out.trans (B3.out.mono BB.out.size)
          go_wp2_with fail
          refine (awake5_any _).mono ?_
          rintro e W4 ⟨rfl, b4⟩
          have B4 : Hid (Below w.heap.size w W4) := BB2.out.trans (b4.mono BB2.out.size)
          clear b4
          go_wp2
          all_goals (go_ret; exact ⟨by rfl, B4.out⟩)
      · obtain rfl : q = false := by
          cases q with
          | false => rfl
          | true => exact absurd (HQ.out.mp rfl) hEq
        have hb : (a0.toList == a1.toList) = false := by
          simp only [beq_eq_false_iff_ne, ne_eq]
          intro h
          exact hEq (toList_inj.mp h).symm
        have HE : Hid (¬ a1 = a0) := hEq
        clear hEq
        by_cases he : a0.toList = []
        · have he' : (a0.toList == []) = true := by simpa using he
          have hb2 : a1.toList.isEmpty = false := by
            have h := hb
            rw [he] at h
            simpa using h
          have hb3 : ¬ a1.toList = [] := by simpa using hb2
          go_wp2_with fail
          refine (awake5_any _).mono ?_
          rintro e W4 ⟨rfl, b4⟩
          have B4 : Hid (Below w.heap.size w W4) := BB.out.trans (b4.mono BB.out.size)
          clear b4
          go_wp2
          all_goals (go_ret; exact ⟨by rfl, B4.out⟩)
        · have hne' : Hid (a0 ≠ ByteArray.empty) := fun h => he ((empty_list a0).mpr h)
          have he' : (a0.toList == []) = false := by simpa using he
          go_wp2_with fail
          refine (match_any _ _ _ sAz [⟨sTag, 3, 0, 0, a0⟩] [⟨0, ByteArray.empty⟩, ⟨0, a1⟩] _ _ ((HA.out.below B2.out).below (below1 _ _)) (one_pd W2 ⟨sTag, 3, 0, 0, a0⟩ _ rfl) (E2.out.vl.below (below1 _ _)) (by decide) (by simp) (by simp) (by decide) (sz_pd HM.out.1) (sz_vl HM.out.2)).mono ?_
          rintro e W3 ⟨hs, b3⟩
          have B3 : Hid (Below W2.heap.size W2 W3) := (below1 _ _).trans (b3.mono (by simp))
          obtain ⟨p, rfl, hp⟩ := hs.iff (s_pre (by decide) (by decide) HS.out.1 HS.out.2 hne'.out)
          have HP : Hid (p = true ↔ a0.data.toList <+: a1.data.toList) := hp
          clear hs hp b3
          have BB2 : Hid (Below w.heap.size w W3) := BB.out.trans (B3.out.mono BB.out.size)
          cases p
          · go_wp2_with fail
            refine (awake5_any _).mono ?_
            rintro e W4 ⟨rfl, b4⟩
            have B4 : Hid (Below w.heap.size w W4) := BB2.out.trans (b4.mono BB2.out.size)
            clear b4
            go_wp2
            all_goals (go_ret; exact ⟨by rfl, B4.out⟩)
          · have hle := pre_len (HP.out.mp rfl)
            go_wp2_with fail
            refine (awake5_any _).mono ?_
            rintro e W4 ⟨rfl, b4⟩
            have B4 : Hid (Below w.heap.size w W4) := BB2.out.trans (b4.mono BB2.out.size)
            clear b4
            go_wp2
            all_goals (go_ret; exact ⟨by rfl, B4.out⟩)
    · have HS : Hid (StrOk a0 ∧ ¬ StrOk a1) := ⟨ht, hu⟩
      clear ht hu
      go_enter Try.func6, Try.ntmps6
      go_wp2_with fail
      refine (str_any _ _ HM.out.1).mono ?_
      rintro e w' ⟨hs, hw'⟩
      subst w'
      obtain rfl := hs.t HS.out.1
      clear hs
      go_wp2_with fail
      refine (str_any _ _ HM.out.2).mono ?_
      rintro e w' ⟨hs, hw'⟩
      subst w'
      obtain rfl := hs.f HS.out.2
      clear hs
      go_wp2_with fail
      refine (awake5_any _).mono ?_
      rintro e W3 ⟨rfl, b3⟩
      go_wp2
      go_ret
      exact ⟨rfl, b3⟩
  · have HS : Hid (¬ StrOk a0) := ht
    clear ht
    go_enter Try.func6, Try.ntmps6
    go_wp2_with fail
    refine (str_any _ _ HM.out.1).mono ?_
    rintro e w' ⟨hs, hw'⟩
    subst w'
    obtain rfl := hs.f HS.out
    clear hs
    go_wp2_with fail
    refine (awake5_any _).mono ?_
    rintro e W3 ⟨rfl, b3⟩
    go_wp2
    go_ret
    exact ⟨rfl, b3⟩

/-! ### THE ROW's STEP: WRITTEN OUT: LEAVE IT -/
set_option maxRecDepth 100000 in
theorem lifted (os : Os) (started : os.Started) (H : Type) (enc : TypeId × Value → H) :
    ReturnsInHanded {} Try.checked os 6 .any (Rows.valueExactSpec.pre6 enc Try.prog Try.f6 Rows.valueExactRow.domain false) (Rows.valueExactSpec.post enc Try.prog Try.f6 false true false false) := by
  refine returnsInHanded_of_change (C := Try.checked) own started (by kernel_rfl) Try.func6
    (ChangeSpec.witness6 (enc := enc) (C := Try.checked) false ⟨#[], #[.string ByteArray.empty, .string ByteArray.empty], []⟩ 8 (by kernel_rfl) (by kernel_rfl) (by kernel_rfl) (by kernel_rfl)) ?_
  intro W base args ds gs before hval0 hW hcnd _
  have hval : ∀ (j : Nat) t v, Try.f6.params[j]? = some t → args[j]? = some v → Value.okWide Try.prog W .any base t v := hval0
  have hW' := hW
  obtain ⟨p, q, hA0, hV, rfl, hfz, hnd⟩ := hW
  have hA : DataW.TrodAll enc Try.prog W 0 (fun _ => true) true Try.f6.params.toList args.toList ds p := hA0
  rw [Try.params6] at hA hval
  obtain ⟨v0, vs0, d0, ds0, p0, q0, hargs, rfl, rfl, h0, r0⟩ := trodAll_cons hA
  obtain ⟨v1, vs1, d1, ds1, p1, q1, rfl, rfl, rfl, h1, r1⟩ := trodAll_cons r0
  obtain ⟨rfl, rfl, rfl⟩ := trodAll_nil r1
  obtain rfl : args = #[v0, v1] := by cases args; simp_all
  obtain ⟨rfl, rfl⟩ := trodVars_none hV
  obtain ⟨a0, rfl, rfl, rfl, w0⟩ := open_string Try.underlying9 (hval 0 9 v0 rfl rfl) h0
  obtain ⟨a1, rfl, rfl, rfl, w1⟩ := open_string Try.underlying9 (hval 1 9 v1 rfl rfl) h1
  clear hA0 hval0
  simp only [List.append_nil] at hW'
  refine (walk a0 a1 w0 w1 W).mono fun e W' ⟨he, bel⟩ => ?_
  subst he
  exact ⟨_, rfl, _, _, _, [], [], [], hW', trodAll_mk1 (shut_bool Try.underlying4 _), (trodAll_cons_mk (shut_string Try.underlying9 w0) (trodAll_cons_mk (shut_string Try.underlying9 w1) trodAll_mk0)), rfl, bel.frame _, fun h => by cases h⟩

theorem over : Rows.valueExactRow.holds Try.pinned (OpenSpec.ofChange Rows.valueExactSpec) :=
  OpenClaim.holds_of_wide 6 Try.f6 rfl rfl rfl rfl rfl rfl rfl ⟨rfl, rfl, rfl, rfl, rfl⟩ rfl rfl rfl rfl rfl (by kernel_rfl) Try.func6 (by kernel_rfl)
    (of_decide_eq_true (by kernel_rfl)) (by unfold Func.isWrapper; first | (rw [if_pos (by decide +kernel)]; kernel_rfl) | (rw [if_neg (by decide +kernel)]; exact ⟨rfl, rfl⟩))
    (fun os started H enc _ => lifted os started H enc)

end Go.Proofs.Ytlnmeofdpngofaa.valueExact

namespace Go.Proofs.Ytlnmeofdpngofaa
/-- Proved: for every two texts, ValueExact answers true (Eq takes just the one text, a prefix of all its bytes it too). -/
theorem valueExact_holds : Rows.ValueExactSaid := valueExact.over
#print axioms valueExact_holds
end Go.Proofs.Ytlnmeofdpngofaa
