/- Proved: for every two texts, FilterJoins answers true (two filters joined by ' and ' are a filter of the one's predicates and then the other's; of texts of at most 140 bytes), the library's variables being laid as the program's text lays them (the card's tie).
  The frame is the guide's own shell (proof-skeleton.mjs) at this function; the walk and all ahead of it are mine. -/
import Derived.Test.YtkjggffignlnjaaDoorRows
import Derived.Test.YtkjggffignlnjaaDoorFilDoor
import Derived.Test.YtkjggffignlnjaaDoorFilPure
import Derived.Test.YtkjggffignlnjaaDoorCut
import Derived.Test.YtkjggffignlnjaaDoorFilTold
import Derived.WalkKit
import Derived.WalkLawsBesides
import Derived.ProofKit
import Derived.OpenShut
import Derived.ChangeSame
import Derived.ChangeVars
import Derived.JoinedOf
import Derived.RowKit
import Derived.RowKitTokens
import Derived.LaidLaws
import Derived.LaidHandle
import Derived.Stop.Joined
import Derived.SevenTiedAt
import Derived.Test.YtkjggffignlnjaaDoorTie
import Derived.Test.YtkjggffignlnjaaDoorCards
import Derived.ShutString
namespace Go.Proofs.YtkjggffignlnjaaDoor.filterJoins
open Go.ChangeShapes Go.WideShapes Go.ChangeAt Go.RowKit
open Go.ChangeMaps (open_string shut_string)
set_option linter.unusedVariables false      -- a walk need not use every 'w<i>' (that an integer argument fits its kind)

theorem own : ownKnob Tryd.prog.godebug = none := by kernel_rfl


theorem rPred_blank (l : List UInt8) : rPred (32 :: l) = rPred l := by
  have e : rWord (32 :: l) = rWord l := by
    have : (32 :: l).dropWhile isBlank = l.dropWhile isBlank := by rw [List.dropWhile_cons, if_pos (by decide)]
    unfold rWord; rw [this]
  unfold rPred; rw [e]
theorem rFil_blank (n : Nat) (acc : List Pl) (l : List UInt8) : rFil (n + 1) acc (32 :: l) = rFil (n + 1) acc l := by
  rw [rFil, rFil, rPred_blank]
theorem rFil_acc (p : List Pl) : ∀ n acc l qs r, rFil n acc l = .ok qs r → rFil n (p ++ acc) l = .ok (p ++ qs) r := by
  intro n
  induction n with
  | zero => intro acc l qs r h; unfold rFil at h; cases h
  | succ n ih =>
    intro acc l qs r h
    unfold rFil at h ⊢
    cases e1 : rPred l with
    | fail => rw [e1] at h; cases h
    | ok q r1 =>
      rw [e1] at h
      simp only at h ⊢
      cases e2 : rThis [97, 110, 100] r1 with
      | fail b r2 =>
        rw [e2] at h
        cases b with
        | false => cases h
        | true => simp only at h ⊢; cases h; rw [List.append_assoc]
      | ok u r2 =>
        rw [e2] at h
        simp only at h ⊢
        have := ih _ _ _ _ h
        rw [← List.append_assoc] at this
        exact this
theorem rFil_num : ∀ n acc l qs r, rFil n acc l = .ok qs r → qs.length ≤ acc.length + n := by
  intro n
  induction n with
  | zero => intro acc l qs r h; unfold rFil at h; cases h
  | succ n ih =>
    intro acc l qs r h
    unfold rFil at h
    split at h
    · cases h
    · split at h
      · cases h; simp
      · cases h
      · have := ih _ _ _ _ h; simp at this; omega
theorem pars_joins {a b : List UInt8} {ps qs : List Pl} {r r' : List UInt8} (h : pars a = .ok ps r) (h2 : pars b = .ok qs r') : pars (a ++ 32 :: 97 :: 110 :: 100 :: 32 :: b) = .ok (ps ++ qs) r' := by
  rw [pars_app h, rFil_blank]
  have h3 : rFil (b.length + 1) [] b = .ok qs r' := h2
  have h4 := rFil_acc ps _ _ _ _ _ h3
  rw [List.append_nil] at h4
  rw [rFil_fuel b _ (b.length + 1) _ (by simp only [List.length_cons]; omega) (by omega)]
  exact h4
theorem app_listJ (s t u : ByteArray) : (s ++ t ++ u).data.toList = s.data.toList ++ (t.data.toList ++ u.data.toList) := by simp
theorem src_own {B : Nat} {w : World} {v : Value} {us : List Pl} (h : w.ownsRow B 54 5 v us.length (us.flatMap Pl.cells)) : Src Tryd.prog 5 29 v us.length (us.flatMap Pl.cells) w := by
  rcases h.2 with ⟨hv, h1⟩ | ⟨g, cap, cur, hv, hb, hg, hnc, _⟩
  · have hn : us = [] := List.eq_nil_of_length_eq_zero h1
    subst hn
    rw [hv]
    exact Src.ofNil _ Tryd.underlying29 0
  · rw [hv]
    exact Src.ofSlice _ Tryd.underlying29 _ _ _ _ (flat_len Pl.cells 5 Pl.cells_len us) (fun j u hu => h.cells (g := g) (by rw [hv]; rfl) j u hu) (fun u hu => by
      obtain ⟨q, _, hq⟩ := List.mem_flatMap.1 hu
      simp [Pl.cells] at hq
      rcases hq with rfl | rfl | rfl | rfl | rfl <;> rfl)
/-! ### STEP 1: THE WALK: the Go text returns true. 'Grown w w'': the world has at most new blocks (Derived/RowKit3.lean). Part the cases AHEAD of 'go_enter' where a test parts the walk; take each callee by a contract of your own. -/
set_option maxRecDepth 100000 in
set_option maxHeartbeats 2000000 in
theorem walk (a0 : ByteArray) (a1 : ByteArray) (w0 : a0.size ≤ maxLen) (w1 : a1.size ≤ maxLen) (w : World) (hE : ErrType w) (hV : Env w) :
    Calls Tryd.prog 5 #[.string a0, .string a1] w fun e w' => e = .returned (.bool true) ∧ Below w.heap.size w w' := by
  have hcs := cut_size a0 140
  have hcs2 := cut_size a1 140
  obtain ⟨t, ht⟩ : ∃ t, t = cut a0 140 := ⟨_, rfl⟩
  obtain ⟨u, hu⟩ : ∃ u, u = cut a1 140 := ⟨_, rfl⟩
  have HC : Hid (t = cut a0 140 ∧ u = cut a1 140) := ⟨ht, hu⟩
  rw [← ht] at hcs
  rw [← hu] at hcs2
  clear ht hu
  have HE : Hid (Env w ∧ ErrType w) := ⟨hV, hE⟩
  clear hV hE
  go_enter Tryd.func5, Tryd.ntmps5
  go_wp2_with fail
  refine (cut_any a0 140 _ w0).mono ?_
  rw [← HC.out.1]
  rintro e w' ⟨rfl, hw'⟩
  subst w'
  go_wp2_with fail
  refine (cut_any a1 140 _ w1).mono ?_
  rw [← HC.out.2]
  rintro e w' ⟨rfl, hw'⟩
  subst w'
  go_wp2_with fail
  refine (parse_any t _ HE.out.1 (by unfold maxLen; omega)).mono ?_
  rintro e wa ⟨hA, b1⟩
  have HB1 : Hid (Below w.heap.size w wa) := b1
  have HE1 : Hid (Env wa ∧ ErrType wa) := ⟨HE.out.1.below b1 HE.out.1.lt, HE.out.2.below HE.out.2.lt b1⟩
  clear b1
  cases hp : pars t.data.toList with
  | fail b r =>
    obtain ⟨N, rfl, hF⟩ := hA.fail (by omega) hp
    clear hA hF hp
    go_wp2_with fail
    refine (parse_any u _ HE1.out.1 (by unfold maxLen; omega)).mono ?_
    rintro e wb ⟨hA, b2⟩
    have HB2 : Hid (Below w.heap.size w wb ∧ Env wb ∧ ErrType wb) := ⟨HB1.out.trans (b2.mono HB1.out.size), HE1.out.1.below b2 HE1.out.1.lt, HE1.out.2.below HE1.out.2.lt b2⟩
    clear b2
    obtain ⟨v2, v3, rfl⟩ : ∃ v2 v3, e = .returned (.tuple #[v2, v3]) := by
      cases hq : pars u.data.toList with
      | fail b r => obtain ⟨N, rfl, _⟩ := hA.fail (by omega) hq; exact ⟨_, _, rfl⟩
      | ok qs r => obtain ⟨v, rfl, _⟩ := hA.ok (by omega) hq; exact ⟨_, _, rfl⟩
    clear hA
    go_wp2_with fail
    refine (awake6_any _ HB2.out.2.1 HB2.out.2.2).mono ?_
    rintro e w2 ⟨rfl, b2⟩
    have HB3 : Hid (Below w.heap.size w w2) := HB2.out.1.trans (b2.mono HB2.out.1.size)
    clear b2
    go_wp2
    go_ret
    exact ⟨rfl, HB3.out⟩
  | ok ps r =>
    obtain ⟨v, rfl, hrow⟩ := hA.ok (by omega) hp
    have HP : Hid (pars t.data.toList = .ok ps r ∧ PlIn wa v ps) := ⟨hp, PlIn.ofOwn hrow⟩
    have hpl : ps.length ≤ 141 := by
      have := rFil_num _ _ _ _ _ (show rFil (t.data.toList.length + 1) [] t.data.toList = .ok ps r from hp)
      simp at this
      have ht : t.data.size = t.size := rfl
      omega
    clear hA hrow hp
    go_wp2_with fail
    refine (parse_any u _ HE1.out.1 (by unfold maxLen; omega)).mono ?_
    rintro e wb ⟨hA, b2⟩
    have HB2 : Hid (Below w.heap.size w wb ∧ Env wb ∧ ErrType wb ∧ PlIn wb v ps) := ⟨HB1.out.trans (b2.mono HB1.out.size), HE1.out.1.below b2 HE1.out.1.lt, HE1.out.2.below HE1.out.2.lt b2, HP.out.2.below b2⟩
    clear b2
    cases hq : pars u.data.toList with
    | fail b r =>
      obtain ⟨N, rfl, hF⟩ := hA.fail (by omega) hq
      clear hA hF hq
      go_wp2_with fail
      refine (awake6_any _ HB2.out.2.1 HB2.out.2.2.1).mono ?_
      rintro e w2 ⟨rfl, b2⟩
      have HB3 : Hid (Below w.heap.size w w2) := HB2.out.1.trans (b2.mono HB2.out.1.size)
      clear b2
      go_wp2
      go_ret
      exact ⟨rfl, HB3.out⟩
    | ok qs r' =>
      obtain ⟨v2, rfl, hrow⟩ := hA.ok (by omega) hq
      have HQ : Hid (pars (t ++ ⟨#[32, 97, 110, 100, 32]⟩ ++ u).data.toList = .ok (ps ++ qs) r' ∧ PlIn wb v2 qs ∧ (t ++ ⟨#[32, 97, 110, 100, 32]⟩ ++ u).size = t.size + 5 + u.size) := by
        refine ⟨?_, PlIn.ofOwn hrow, ?_⟩
        · have e : (t ++ ⟨#[32, 97, 110, 100, 32]⟩ ++ u).data.toList = t.data.toList ++ 32 :: 97 :: 110 :: 100 :: 32 :: u.data.toList := by
            rw [app_listJ]; rfl
          rw [e]; exact pars_joins HP.out.1 hq
        · simp only [ByteArray.size_append]; rfl
      have hql : qs.length ≤ 141 := by
        have := rFil_num _ _ _ _ _ (show rFil (u.data.toList.length + 1) [] u.data.toList = .ok qs r' from hq)
        simp at this
        have ht : u.data.size = u.size := rfl
        omega
      clear hA hrow hq
      go_wp2_with fail
      obtain ⟨hf, hin2, hsz⟩ := HQ.out
      clear HQ
      have HIN2 : Hid (PlIn wb v2 qs) := hin2
      clear hin2
      generalize t ++ ⟨#[32, 97, 110, 100, 32]⟩ ++ u = S at hf hsz ⊢
      refine (parse_any S _ HB2.out.2.1 (by unfold maxLen; omega)).mono ?_
      rintro e w3 ⟨hA, b3⟩
      obtain ⟨v3, rfl, hrow3⟩ := hA.ok (by omega) hf
      have HB3 : Hid (Below w.heap.size w w3 ∧ Env w3 ∧ ErrType w3 ∧ PlIn w3 v ps ∧ PlIn w3 v2 qs ∧ PlIn w3 v3 (ps ++ qs)) := ⟨HB2.out.1.trans (b3.mono HB2.out.1.size), HB2.out.2.1.below b3 HB2.out.2.1.lt, HB2.out.2.2.1.below HB2.out.2.2.1.lt b3, HB2.out.2.2.2.below b3, HIN2.out.below b3, PlIn.ofOwn hrow3⟩
      clear hA b3 hf hsz hrow3
      go_wp2_with fail
      refine (awake6_any _ HB3.out.2.1 HB3.out.2.2.1).mono ?_
      rintro e w4 ⟨rfl, b4⟩
      have HB4 : Hid (Below w.heap.size w w4 ∧ PlIn w4 v ps ∧ PlIn w4 v2 qs ∧ PlIn w4 v3 (ps ++ qs)) := ⟨HB3.out.1.trans (b4.mono HB3.out.1.size), HB3.out.2.2.2.1.below b4, HB3.out.2.2.2.2.1.below b4, HB3.out.2.2.2.2.2.below b4⟩
      clear b4
      go_wp2_with fail
      refine (told_any v3 (ps ++ qs) _ HB4.out.2.2.2 (by simp; omega)).mono ?_
      rintro e w5 ⟨v5, rfl, o5, b5⟩
      have HB5 : Hid (Below w.heap.size w w5 ∧ PlIn w5 v ps ∧ PlIn w5 v2 qs ∧ PlIn w5 v5 (ps ++ qs)) := ⟨HB4.out.1.trans (b5.mono HB4.out.1.size), HB4.out.2.1.below b5, HB4.out.2.2.1.below b5, PlIn.ofOwn o5⟩
      clear b5 o5
      go_wp2_with fail
      refine (told_any v ps _ HB5.out.2.1 (by omega)).mono ?_
      rintro e w6 ⟨v6, rfl, o6, b6⟩
      have HB6 : Hid (Below w.heap.size w w6 ∧ PlIn w6 v2 qs ∧ PlIn w6 v5 (ps ++ qs) ∧ w6.ownsRow w5.heap.size 54 5 v6 ps.length (ps.flatMap Pl.cells) ∧ w5.heap.size ≤ w6.heap.size ∧ PlIn w5 v5 (ps ++ qs)) := ⟨HB5.out.1.trans (b6.mono HB5.out.1.size), HB5.out.2.2.1.below b6, HB5.out.2.2.2.below b6, o6, b6.size, HB5.out.2.2.2⟩
      have HK6 : Hid (Below w5.heap.size w5 w6) := b6
      clear b6 o6
      go_wp2_with fail
      refine (told_any v2 qs _ HB6.out.2.1 (by omega)).mono ?_
      rintro e w7 ⟨v7, rfl, o7, b7⟩
      have HK7 : Hid (Below w5.heap.size w5 w7 ∧ w7.ownsRow w5.heap.size 54 5 v6 ps.length (ps.flatMap Pl.cells) ∧ w7.ownsRow w6.heap.size 54 5 v7 qs.length (qs.flatMap Pl.cells)) := ⟨HK6.out.trans (b7.mono HB6.out.2.2.2.2.1), own_carryF HB6.out.2.2.2.1 b7, o7⟩
      clear b7 o7
      obtain ⟨i0, hi, hz0, hz1, hz2⟩ := info_parts Tryd.infoRP
      have hle7 := HK7.out.1.size
      go_wp2_with (at_builtin; refine wpList_own_append5g _ rfl _ _ 29 29 rfl w5.heap.size 54 i0 _ 56 Tryd.underlying29 hi hz0 hz1 hz2 rfl _ _ _ rfl HK7.out.2.1 _ qs.length _ rfl (src_own HK7.out.2.2) ?c3 ?c4 ?c5 ?_)
      case c3 => unfold maxLen; omega
      case c4 => omega
      case c5 => exact hle7
      intro v8 w8 ha
      have HK8 : Hid (Below w5.heap.size w5 w8 ∧ PlIn w8 v8 (ps ++ qs)) := by
        have hr := ha.row
        rw [← List.flatMap_append, ← List.length_append] at hr
        exact ⟨grown_belowF HK7.out.1 hle7 HK7.out.2.1 ha.grown, PlIn.ofOwn hr⟩
      have HB8 : Hid (Below w.heap.size w w8 ∧ PlIn w8 v5 (ps ++ qs) ∧ PlIn w8 v8 (ps ++ qs)) := ⟨HB5.out.1.trans (HK8.out.1.mono HB5.out.1.size), HB5.out.2.2.2.below HK8.out.1, HK8.out.2⟩
      clear ha
      go_wp2_with fail
      refine (same_yes v5 v8 (ps ++ qs) _ HB8.out.2.1 HB8.out.2.2 (by simp; omega)).mono ?_
      rintro e w9 ⟨rfl, b9⟩
      have HB9 : Hid (Below w.heap.size w w9) := HB8.out.1.trans (b9.mono HB8.out.1.size)
      clear b9
      go_wp2
      go_ret
      exact ⟨rfl, HB9.out⟩

/-! ### THE ROW's STEP: WRITTEN OUT: LEAVE IT -/
set_option maxRecDepth 100000 in
set_option maxHeartbeats 8000000 in
theorem lifted (os : Os) (started : os.Started) (H : Type) (enc : TypeId × Value → H) :
    ReturnsInHanded {} Tryd.checked os 5 .any (fun w args => (Rows.filterJoinsSpec.pre enc Tryd.prog Tryd.f5 [] false w args ∧ laidMetH Tryd.prog Rows.filterJoinsRow.laid w) ∧ sizedMet enc Tryd.prog Tryd.f5 (OpenSpec.ofChange Rows.filterJoinsSpec) false w args) (Rows.filterJoinsSpec.post enc Tryd.prog Tryd.f5 false true false false) := by
  refine returnsInHanded_of_change_and (C := Tryd.checked) (X := fun w _ => laidMetH Tryd.prog Rows.filterJoinsRow.laid w) (fun _ _ _ hh h => h.of_heap hh) own started (by kernel_rfl) Tryd.func5
    (ChangeSpec.witness_at (enc := enc) (C := Tryd.checked) (os := os) (X := fun w _ => laidMetH Tryd.prog Rows.filterJoinsRow.laid w) false ({ World.holding Tryd.prog os ⟨#[], #[], []⟩ with heap := witHeap (World.holding Tryd.prog os ⟨#[], #[], []⟩).heap }) #[.string ByteArray.empty, .string ByteArray.empty] 8 rfl (by kernel_rfl) (by kernel_rfl) (by kernel_rfl) (by kernel_rfl) (by kernel_rfl) (laidMetH_of_parts (laidMet_of_run' 8 (by kernel_rfl) (by kernel_rfl)) (by kernel_rfl))) ?_
  intro W base args ds gs before hval0 hW _ _ hL _
  have hval : ∀ (j : Nat) t v, Tryd.f5.params[j]? = some t → args[j]? = some v → Value.okWide Tryd.prog W .any base t v := hval0
  have hW' := hW
  obtain ⟨p, q, hA0, hV, rfl, hfz, hnd⟩ := hW
  have hA : DataW.TrodAll enc Tryd.prog W 0 (fun _ => true) true Tryd.f5.params.toList args.toList ds p := hA0
  rw [Tryd.params5] at hA hval
  obtain ⟨v0, vs0, d0, ds0, p0, q0, hargs, rfl, rfl, h0, r0⟩ := trodAll_cons hA
  obtain ⟨v1, vs1, d1, ds1, p1, q1, rfl, rfl, rfl, h1, r1⟩ := trodAll_cons r0
  obtain ⟨rfl, rfl, rfl⟩ := trodAll_nil r1
  obtain rfl : args = #[v0, v1] := by cases args; simp_all
  obtain ⟨rfl, rfl⟩ := trodVars_none hV
  obtain ⟨a0, rfl, rfl, rfl, w0⟩ := open_string Tryd.underlying9 (hval 0 9 v0 rfl rfl) h0
  obtain ⟨a1, rfl, rfl, rfl, w1⟩ := open_string Tryd.underlying9 (hval 1 9 v1 rfl rfl) h1
  clear hA0 hval0
  simp only [List.append_nil] at hW'
  have hEV := env_of_laid hL
  have hE := hEV.2
  have hV := hEV.1
  refine (walk a0 a1 w0 w1 W hE hV).mono fun e W' ⟨he, bel⟩ => ?_
  subst he
  exact ⟨_, rfl, _, _, _, [], [], [], hW', trodAll_mk1 (shut_bool Tryd.underlying4 _), (trodAll_cons_mk (shut_string Tryd.underlying9 w0) (trodAll_cons_mk (shut_string Tryd.underlying9 w1) trodAll_mk0)), rfl, bel.frame _, fun h => by cases h⟩

theorem over : Rows.filterJoinsRow.holds Tryd.pinned (OpenSpec.ofChange Rows.filterJoinsSpec) :=
  OpenClaim.holds_of_wide 5 Tryd.f5 rfl rfl rfl rfl rfl rfl rfl ⟨rfl, rfl, rfl, rfl, rfl⟩ rfl rfl rfl rfl rfl (by kernel_rfl) Tryd.func5 (by kernel_rfl)
    (of_decide_eq_true (by kernel_rfl)) (by unfold Func.isWrapper; first | (rw [if_pos (by decide +kernel)]; kernel_rfl) | (rw [if_neg (by decide +kernel)]; exact ⟨rfl, rfl⟩))
    (fun os started H enc _ => lifted os started H enc)

theorem card : Rows.FilterJoinsCardSaid :=
  Claim7.holds_tied_plain_at .later [] [.data, .data, .data, .handle, .sentinel, .sentinel] true (true, "9181197483563d07d2a5994f3552607cc27dd103e0fd44f648ccbcdd705e4bb4") true
    over (fun _ h => by cases h) (by kernel_rfl) (fun _ h => by cases h) filterJoins_row_tie rfl ⟨rfl, rfl⟩ (by kernel_rfl) rfl
    (fun f fn hf hfn => by
      obtain rfl : f = 5 := Option.some.inj ((show Tryd.prog.funcNamed "wigwag/wigwaglaw06.FilterJoins" = some 5 by kernel_rfl).symm.trans hf) |>.symm
      obtain rfl : fn = Tryd.f5 := (Option.some.inj (Tryd.func5.symm.trans hfn)).symm
      exact ⟨by kernel_rfl, fun j t ht => by
        rw [Tryd.params5] at ht
        have hall : ∀ t ∈ ([9, 9] : List TypeId), Tryd.prog.wantsStandIn t = false := by
          intro t ht
          simp only [List.mem_cons, List.not_mem_nil, or_false] at ht
          rcases ht with rfl | rfl <;> kernel_rfl
        exact hall t (by simpa using List.mem_of_getElem? (l := ([9, 9] : List TypeId)) (i := j) (by simpa using ht))⟩)
    (by kernel_rfl)

end Go.Proofs.YtkjggffignlnjaaDoor.filterJoins

namespace Go.Proofs.YtkjggffignlnjaaDoor
/-- Proved: for every two texts, FilterJoins answers true (two filters joined by ' and ' are a filter of the one's predicates and then the other's; of texts of at most 140 bytes), the library's variables being laid as the program's text lays them (the card's tie). -/
theorem filterJoins_holds : Rows.FilterJoinsCardSaid := filterJoins.card
#print axioms filterJoins_holds
end Go.Proofs.YtkjggffignlnjaaDoor
