/- Proved: for every text and every int, CodeTexts answers true (a text is read where it isn't longer than it may be; else nothing of it is taken), errors.errorType being laid as the program's text lays it (the card's tie, over the pruned copy).
  The frame is the guide's own shell (proof-skeleton.mjs) at this function; the walk and all ahead of it are mine. -/
import Derived.Test.YticdikllfkfkfaaDoorRows
import Derived.Test.YticdikllfkfkfaaDoorAid
import Derived.Test.YticdikllfkfkfaaDoorCodeMath
import Derived.Test.YticdikllfkfkfaaDoorOwnSrc
import Derived.Test.YticdikllfkfkfaaDoorCodeW
import Derived.Test.YticdikllfkfkfaaDoorCodeR
import Derived.Test.YticdikllfkfkfaaDoorCodeR2
import Derived.Test.YticdikllfkfkfaaDoorCodeIs
import Derived.Test.YticdikllfkfkfaaDoorCodeAwake
import Derived.Test.YticdikllfkfkfaaDoorCodeKeep
import Derived.Test.YticdikllfkfkfaaDoorCut
import Derived.Test.YticdikllfkfkfaaDoorCodeOf
import Derived.Test.YticdikllfkfkfaaDoorCodeOf2
import Derived.Test.YticdikllfkfkfaaDoorCodeOf3
import Derived.Test.YticdikllfkfkfaaDoorCodeRT
import Derived.WalkKit
import Derived.WalkLawsBesides
import Derived.ProofKit
import Derived.OpenShut
import Derived.ChangeSame
import Derived.ChangeVars
import Derived.JoinedOf
import Derived.RowKit
import Derived.RowKitTokens
import Derived.LaidLaws
import Derived.LaidHandle
import Derived.Stop.Joined
import Derived.SevenTiedAt
import Derived.Test.YticdikllfkfkfaaDoorTie
import Derived.Test.YticdikllfkfkfaaDoorCards
import Derived.ShutString
namespace Go.Proofs.YticdikllfkfkfaaDoor.codeTexts
open Go.ChangeShapes Go.WideShapes Go.ChangeAt Go.RowKit
open Go.ChangeMaps (open_string shut_string)
set_option linter.unusedVariables false      -- a walk need not use every 'w<i>' (that an integer argument fits its kind)

theorem own : ownKnob Tryd.prog.godebug = none := by kernel_rfl


theorem rd_text (t : ByteArray) (h : t.size ≤ 200) : rdNum 0 0 (List.drop 0 (ByteArray.data ⟨(numB t.size ++ t.data.toList).toArray⟩).toList) = (t.size, (numB t.size).length, 0) := by
  have := rd_back t.size t.data.toList (by omega)
  simpa using this
theorem ext_text (t : ByteArray) : (ByteArray.mk (numB t.size ++ t.data.toList).toArray).extract (numB t.size).length ((numB t.size).length + t.size) = t := by
  apply bytes_inj
  rw [ByteArray.data_extract]
  simp only [Array.toList_extract, List.extract_eq_take_drop, List.toList_toArray]
  rw [Nat.add_sub_cancel_left, List.drop_append_of_le_length (Nat.le_refl _), List.drop_length, List.nil_append]
  exact List.take_of_length_le (by simp)
theorem et : Tryd.prog.globalNamed "errors.errorType" = some 0 := by kernel_rfl
theorem rt : (Tryd.prog.cutTypes.find? (·.1 == "internal/reflectlite.rtype")).map (·.2) = some 87 := by kernel_rfl
theorem oneRow : ((List.range 129).filter fun t => Tryd.prog.rowNamed t [101, 114, 114, 111, 114]) = [48] := by kernel_rfl
theorem typesSize : Tryd.prog.types.size = 129 := by kernel_rfl
/-- What the tied variable gives a walk: its one cell. -/
theorem handle_of_laid {W : World} (h : laidMetH Tryd.prog Rows.codeTextsRow.laid W) : ErrType W := by
  have h' : laidMet Tryd.prog [] W ∧ handlesMet Tryd.prog Rows.codeTextsRow.laid W := h
  obtain ⟨name, u, ty, e1, e2, e3, e4, e5⟩ := h'.2 _ (List.mem_singleton.2 rfl)
  have en : name = [101, 114, 114, 111, 114] := (Option.some.inj e1).symm
  subst en
  obtain rfl := Option.some.inj (rt.symm.trans e2)
  have hm : ty ∈ (List.range 129).filter fun t => Tryd.prog.rowNamed t [101, 114, 114, 111, 114] := List.mem_filter.2 ⟨List.mem_range.2 (by rw [← typesSize]; exact e3), e4⟩
  rw [oneRow] at hm
  obtain rfl := List.mem_singleton.1 hm
  have hh : typeHandle Tryd.prog 48 = .pointer (some ⟨1, 48, none⟩) := by kernel_rfl
  rw [hh] at e5
  unfold ErrType
  simpa using World.var?_cell et e5 0

/-! ### STEP 1: THE WALK: the Go text returns true. 'Grown w w'': the world has at most new blocks (Derived/RowKit3.lean). Part the cases AHEAD of 'go_enter' where a test parts the walk; take each callee by a contract of your own. -/
theorem walk (a0 : ByteArray) (a1 : Int) (w0 : a0.size ≤ maxLen) (w1 : (Lit.int .i64 a1).wf = true) (w : World) (hE : ErrType w) :
    Calls Tryd.prog 6 #[.string a0, .int .i64 a1] w fun e w' => e = .returned (.bool true) ∧ Below w.heap.size w w' := by
  have hc := cut_size a0 200
  obtain ⟨t, ht⟩ : ∃ t, t = cut a0 200 := ⟨_, rfl⟩
  have HC : Hid (t = cut a0 200) := ht
  rw [← ht] at hc
  clear ht
  have bm := bounds_i64 w1
  have hl10 := numB_len10 t.size (by omega)
  have hlt := hE.lt
  have hW0 := wr_new w.heap.size w (Nat.le_refl _)
  have b0 : Below w.heap.size w (w.alloc (.cells #[.slice none 0 0] 54)) := (Below.refl _ _).alloc (Nat.le_refl _) _
  go_enter Tryd.func6, Tryd.ntmps6
  go_wp2_with fail
  refine (cut_any a0 200 _ w0).mono ?_
  rw [← HC.out]
  rintro e w' ⟨rfl, hw'⟩
  rw [hw']
  clear hw' w'
  go_wp2_with fail
  refine (wtext_any w.heap.size w.heap.size _ [] t _ hW0 (by simp) (by omega) (by simp)).mono ?_
  rintro e w1' ⟨rfl, v1, hW1, hK1⟩
  have b1 := hK1.below hW0 b0 (by simp)
  have s1 := hW1.lt
  rw [List.nil_append] at hW1
  clear hK1 hW0 b0
  go_wp2_with fail
  refine (bytes_any w.heap.size w.heap.size v1 _ w1' hW1).mono ?_
  rintro e w' ⟨rfl, hw'⟩
  rw [hw']
  clear hw' w'
  go_wp2_with fail
  refine (open_any _ _).mono ?_
  rintro e w2 ⟨rfl, hw2⟩
  have hR2 : Rd w2 w1'.heap.size ⟨(numB t.size ++ t.data.toList).toArray⟩ 0 0 := by rw [hw2]; exact rd_new _ _
  have hW2 : Wr w.heap.size w2 w.heap.size v1 (numB t.size ++ t.data.toList) := by rw [hw2]; exact hW1.alloc _
  have b2 : Below w.heap.size w w2 := by rw [hw2]; exact b1.alloc (by omega) _
  have hq : w1'.heap.size ≠ w.heap.size := by omega
  have hqr : v1.ownBlock ≠ some w1'.heap.size := fun e => by have := (hW1.row.lt _ e).2; omega
  have hqs := hR2.lt
  clear hw2 hW1 b1
  have hSs : (ByteArray.mk (numB t.size ++ t.data.toList).toArray).size = (numB t.size).length + t.size := by
    show (numB t.size ++ t.data.toList).toArray.size = _
    simp
  have hS3 : (ByteArray.mk (numB t.size ++ t.data.toList).toArray).size ≤ 1000000 := by omega
  by_cases hle : (t.size : Int) ≤ max a1 0
  · go_wp2_with fail
    refine (rtext_ok w1'.heap.size _ 0 t.size (numB t.size).length (numB t.size).length (by omega) a1 _ hR2 (Nat.zero_le _) hS3 (rd_text t hc) bm.2 hle (by omega)).mono ?_
    rw [ext_text]
    rintro e w3 ⟨rfl, hR3, hS3'⟩
    have hW3 := hW2.adds hq hqr hS3'.adds
    have b3 := hS3'.adds.below (B := w.heap.size) (by omega) (by omega) b2
    have s3 := hR3.lt
    clear hS3' hW2 hR2 b2
    have HS : Hid ((ByteArray.mk (numB t.size ++ t.data.toList).toArray).size = (numB t.size).length + t.size) := hSs
    clear hSs
    go_wp2_with fail
    all_goals
      refine (cawake_any w3).mono ?_
      rintro e w4 ⟨rfl, hb4⟩
      have hR4 := hR3.below hb4
      have hW4 := hW3.below hb4
      have b4 := b3.trans (hb4.mono (by omega))
      have s4 := hR4.lt
      clear hb4 hR3 hW3 b3
      go_wp2_with fail
      refine (done_nil w1'.heap.size _ _ _ hR4 (by rw [HS.out]; omega)).mono ?_
      rintro e w5 ⟨rfl, hR5, hA5⟩
      have hW5 := hW4.adds hq hqr hA5
      have b5 := hA5.below (B := w.heap.size) (by omega) (by omega) b4
      clear hA5 hR4 hW4 b4
      go_wp2_with fail
      refine (at_any w1'.heap.size _ _ _ _ hR5).mono ?_
      rintro e w6 ⟨rfl, hw6⟩
      rw [hw6]
      clear hw6 w6
      go_wp2_with fail
      refine (bytes_any w.heap.size w.heap.size v1 _ w5 hW5).mono ?_
      rintro e w6 ⟨rfl, hw6⟩
      rw [hw6]
      clear hw6 w6
      go_wp2
      go_ret
      exact ⟨by simp, b5⟩
  · go_wp2_with fail
    refine (rtext_arg w1'.heap.size _ 0 t.size (numB t.size).length a1 _ hR2 (Nat.zero_le _) hS3 (rd_text t hc) bm.2 (by omega)).mono ?_
    rintro e w3 ⟨rfl, hR3, hS3'⟩
    have b3 := hS3'.adds.below (B := w.heap.size) (by omega) (by omega) b2
    have s3 := hR3.lt
    clear hS3' hW2 hR2 b2 hSs
    go_wp2_with fail
    all_goals
      refine (cawake_any w3).mono ?_
      rintro e w4 ⟨rfl, hb4⟩
      have hR4 := hR3.below hb4
      have b4 := b3.trans (hb4.mono (by omega))
      have s4 := hR4.lt
      clear hb4 hR3 b3
      go_wp2_with fail
      refine (at_any w1'.heap.size _ _ _ _ hR4).mono ?_
      rintro e w6 ⟨rfl, hw6⟩
      rw [hw6]
      clear hw6 w6
      go_wp2_with fail
      refine (err_fault w1'.heap.size _ _ 1 _ hR4 (by omega)).mono ?_
      rintro e w7 ⟨g, rfl, hF, hg, hR7, hA7⟩
      have b7 := hA7.below (B := w.heap.size) (by omega) (by omega) b4
      have s7 := hR7.lt
      have hE7 := hE.below hlt b7
      clear hA7 hR4 b4
      go_wp2_with fail
      refine (of_fault g 1 _ hE7 hF).mono ?_
      rintro e w8 ⟨rfl, hb8⟩
      have b8 := b7.trans (hb8.mono (by omega))
      go_wp2
      go_ret
      exact ⟨rfl, b8⟩

/-! ### THE ROW's STEP: WRITTEN OUT: LEAVE IT -/
set_option maxRecDepth 100000 in
theorem lifted (os : Os) (started : os.Started) (H : Type) (enc : TypeId × Value → H) :
    ReturnsInHanded {} Tryd.checked os 6 .any (fun w args => (Rows.codeTextsSpec.pre enc Tryd.prog Tryd.f6 [] false w args ∧ laidMetH Tryd.prog Rows.codeTextsRow.laid w) ∧ sizedMet enc Tryd.prog Tryd.f6 (OpenSpec.ofChange Rows.codeTextsSpec) false w args) (Rows.codeTextsSpec.post enc Tryd.prog Tryd.f6 false true false false) := by
  refine returnsInHanded_of_change_and (C := Tryd.checked) (X := fun w _ => laidMetH Tryd.prog Rows.codeTextsRow.laid w) (fun _ _ _ hh h => h.of_heap hh) own started (by kernel_rfl) Tryd.func6
    (ChangeSpec.witness_at (enc := enc) (C := Tryd.checked) (os := os) (X := fun w _ => laidMetH Tryd.prog Rows.codeTextsRow.laid w) false ({ World.holding Tryd.prog os ⟨#[], #[], []⟩ with heap := (World.holding Tryd.prog os ⟨#[], #[], []⟩).heap.modify 0 fun | .cells _ t frozen => .cells #[.iface 87 (.agg #[.pointer (some ⟨1, 48, none⟩)])] t frozen | o => o }) #[.string ByteArray.empty, .int .i64 0] 8 rfl (by kernel_rfl) (by kernel_rfl) (by kernel_rfl) (by kernel_rfl) (by kernel_rfl) (laidMetH_of_parts (laidMet_nil _ _) (by kernel_rfl))) ?_
  intro W base args ds gs before hval0 hW _ _ hL _
  have hval : ∀ (j : Nat) t v, Tryd.f6.params[j]? = some t → args[j]? = some v → Value.okWide Tryd.prog W .any base t v := hval0
  have hW' := hW
  obtain ⟨p, q, hA0, hV, rfl, hfz, hnd⟩ := hW
  have hA : DataW.TrodAll enc Tryd.prog W 0 (fun _ => true) true Tryd.f6.params.toList args.toList ds p := hA0
  rw [Tryd.params6] at hA hval
  obtain ⟨v0, vs0, d0, ds0, p0, q0, hargs, rfl, rfl, h0, r0⟩ := trodAll_cons hA
  obtain ⟨v1, vs1, d1, ds1, p1, q1, rfl, rfl, rfl, h1, r1⟩ := trodAll_cons r0
  obtain ⟨rfl, rfl, rfl⟩ := trodAll_nil r1
  obtain rfl : args = #[v0, v1] := by cases args; simp_all
  obtain ⟨rfl, rfl⟩ := trodVars_none hV
  obtain ⟨a0, rfl, rfl, rfl, w0⟩ := open_string Tryd.underlying9 (hval 0 9 v0 rfl rfl) h0
  obtain ⟨a1, rfl, rfl, rfl, w1⟩ := open_int Tryd.underlying3 (hval 1 3 v1 rfl rfl) h1
  clear hA0 hval0
  simp only [List.append_nil] at hW'
  have hE := handle_of_laid hL
  refine (walk a0 a1 w0 w1 W hE).mono fun e W' ⟨he, bel⟩ => ?_
  subst he
  exact ⟨_, rfl, _, _, _, [], [], [], hW', trodAll_mk1 (shut_bool Tryd.underlying4 _), (trodAll_cons_mk (shut_string Tryd.underlying9 w0) (trodAll_cons_mk (shut_int Tryd.underlying3 w1) trodAll_mk0)), rfl, bel.frame _, fun h => by cases h⟩

theorem over : Rows.codeTextsRow.holds Tryd.pinned (OpenSpec.ofChange Rows.codeTextsSpec) :=
  OpenClaim.holds_of_wide 6 Tryd.f6 rfl rfl rfl rfl rfl rfl rfl ⟨rfl, rfl, rfl, rfl, rfl⟩ rfl rfl rfl rfl rfl (by kernel_rfl) Tryd.func6 (by kernel_rfl)
    (of_decide_eq_true (by kernel_rfl)) (by unfold Func.isWrapper; first | (rw [if_pos (by decide +kernel)]; kernel_rfl) | (rw [if_neg (by decide +kernel)]; exact ⟨rfl, rfl⟩))
    (fun os started H enc _ => lifted os started H enc)

theorem card : Rows.CodeTextsCardSaid :=
  Claim7.holds_tied_plain_at .later [] [.handle] true (true, "6aacf6edaab462a4eb4776fd7baaeed8d584f891605cc816118d6e827fdbf6ea") true
    over (fun _ h => by cases h) (by kernel_rfl) (fun _ h => by cases h) codeTexts_row_tie rfl ⟨rfl, rfl⟩ (by kernel_rfl) rfl
    (fun f fn hf hfn => by
      obtain rfl : f = 6 := Option.some.inj ((show Tryd.prog.funcNamed "wigwag/wigwaglaw02.CodeTexts" = some 6 by kernel_rfl).symm.trans hf) |>.symm
      obtain rfl : fn = Tryd.f6 := (Option.some.inj (Tryd.func6.symm.trans hfn)).symm
      exact ⟨by kernel_rfl, fun j t ht => by
        rw [Tryd.params6] at ht
        have hall : ∀ t ∈ ([9, 3] : List TypeId), Tryd.prog.wantsStandIn t = false := by
          intro t ht
          simp only [List.mem_cons, List.not_mem_nil, or_false] at ht
          rcases ht with rfl | rfl <;> kernel_rfl
        exact hall t (by simpa using List.mem_of_getElem? (l := ([9, 3] : List TypeId)) (i := j) (by simpa using ht))⟩)
    (by kernel_rfl)

end Go.Proofs.YticdikllfkfkfaaDoor.codeTexts

namespace Go.Proofs.YticdikllfkfkfaaDoor
/-- Proved: for every text and every int, CodeTexts answers true (a text is read where it isn't longer than it may be; else nothing of it is taken), errors.errorType being laid as the program's text lays it (the card's tie, over the pruned copy). -/
theorem codeTexts_holds : Rows.CodeTextsCardSaid := codeTexts.card
#print axioms codeTexts_holds
end Go.Proofs.YticdikllfkfkfaaDoor
