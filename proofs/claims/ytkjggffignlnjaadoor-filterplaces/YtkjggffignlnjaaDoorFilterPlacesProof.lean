/- Proved: for every text and every number, FilterPlaces answers true (a text of several predicates in which one is spoilt is told at or behind where that one begins; of texts of at most 100 bytes, the first of which is a filter), the library's variables being laid as the program's text lays them (the card's tie).
  The frame is the guide's own shell (proof-skeleton.mjs) at this function; the walk and all ahead of it are mine. -/
import Derived.Test.YtkjggffignlnjaaDoorRows
import Derived.Test.YtkjggffignlnjaaDoorFilDoor
import Derived.Test.YtkjggffignlnjaaDoorFilPure
import Derived.Test.YtkjggffignlnjaaDoorCut
import Derived.WalkKit
import Derived.WalkLawsBesides
import Derived.ProofKit
import Derived.OpenShut
import Derived.ChangeSame
import Derived.ChangeVars
import Derived.JoinedOf
import Derived.RowKit
import Derived.RowKitTokens
import Derived.LaidLaws
import Derived.LaidHandle
import Derived.Stop.Joined
import Derived.SevenTiedAt
import Derived.Test.YtkjggffignlnjaaDoorTie
import Derived.Test.YtkjggffignlnjaaDoorCards
import Derived.ShutString
namespace Go.Proofs.YtkjggffignlnjaaDoor.filterPlaces
open Go.ChangeShapes Go.WideShapes Go.ChangeAt Go.RowKit
open Go.ChangeMaps (open_string shut_string)
set_option linter.unusedVariables false      -- a walk need not use every 'w<i>' (that an integer argument fits its kind)

theorem own : ownKnob Tryd.prog.godebug = none := by kernel_rfl


def zBad : Nat → List UInt8
  | 0 => [120, 32, 105, 110]
  | 1 => [120, 32, 61, 32, 34]
  | _ => [88, 32, 105, 110, 32, 49, 46, 46, 50]
theorem bad_fails (n : Nat) (hn : n ≤ 2) (ps : List Pl) : ∃ b r, rFil ((32 :: zBad n).length + 1) ps (32 :: zBad n) = .fail b r ∧ r.length ≤ (zBad n).length := by
  have key : ∃ b r, rPred (32 :: zBad n) = .fail b r ∧ r.length ≤ (zBad n).length := by
    rcases (show n = 0 ∨ n = 1 ∨ n = 2 by omega) with rfl | rfl | rfl
    · exact ⟨true, [], rfl, Nat.zero_le _⟩
    · have e1 : rWord (32 :: zBad 1) = .ok [120] [32, 61, 32, 34] := rfl
      have e2 : rBegin [32, 61, 32, 34] = .ok () [61, 32, 34] := rfl
      have m1 : rMark [61] [61, 32, 34] = .ok () [32, 34] := by
        have : ([61, 32, 34] : List UInt8).dropWhile isBlank = [61, 32, 34] := rfl
        unfold rMark; rw [this]; simp
      have m2 : rMark [34] [32, 34] = .ok () [] := by
        have : ([32, 34] : List UInt8).dropWhile isBlank = [34] := rfl
        unfold rMark; rw [this]; simp
      have e3 : rMarkStr [61] [61, 32, 34] = .fail true [] := by
        unfold rMarkStr; rw [m1]; simp only
        unfold rStr; rw [m2]; rfl
      refine ⟨true, [], ?_, Nat.zero_le _⟩
      unfold rPred
      rw [e1]; simp only [e2]
      unfold rAsk
      simp only
      rw [if_pos (by decide), e3]
    · exact ⟨false, zBad 2, rfl, Nat.le_refl _⟩
  obtain ⟨b, r, h1, h2⟩ := key
  exact ⟨b, r, by rw [rFil, h1], h2⟩
theorem app_list (s t u : ByteArray) : (s ++ t ++ u).data.toList = s.data.toList ++ (t.data.toList ++ u.data.toList) := by simp
/-! ### STEP 1: THE WALK: the Go text returns true. 'Grown w w'': the world has at most new blocks (Derived/RowKit3.lean). Part the cases AHEAD of 'go_enter' where a test parts the walk; take each callee by a contract of your own. -/
set_option maxRecDepth 100000 in
set_option maxHeartbeats 2000000 in
theorem walk (a0 : ByteArray) (a1 : Int) (w0 : a0.size ≤ maxLen) (w1 : (Lit.int .i64 a1).wf = true) (w : World) (hE : ErrType w) (hV : Env w) :
    Calls Tryd.prog 6 #[.string a0, .int .i64 a1] w fun e w' => e = .returned (.bool true) ∧ Below w.heap.size w w' := by
  have hcs := cut_size a0 100
  obtain ⟨t, ht⟩ : ∃ t, t = cut a0 100 := ⟨_, rfl⟩
  have HC : Hid (t = cut a0 100) := ht
  rw [← ht] at hcs
  clear ht
  have HE : Hid (Env w ∧ ErrType w) := ⟨hV, hE⟩
  clear hV hE
  go_enter Tryd.func6, Tryd.ntmps6
  go_wp2_with fail
  refine (cut_any a0 100 _ w0).mono ?_
  rw [← HC.out]
  rintro e w' ⟨rfl, hw'⟩
  subst w'
  go_wp2_with fail
  refine (parse_any t _ HE.out.1 (by unfold maxLen; omega)).mono ?_
  rintro e w1' ⟨hA, b1⟩
  have HB1 : Hid (Below w.heap.size w w1') := b1
  have HE1 : Hid (Env w1' ∧ ErrType w1') := ⟨HE.out.1.below b1 HE.out.1.lt, HE.out.2.below HE.out.2.lt b1⟩
  clear b1
  cases hp : pars t.data.toList with
  | fail b r =>
    obtain ⟨N, rfl, hF⟩ := hA.fail (by omega) hp
    clear hA hF hp
    go_wp2_with fail
    refine (awake6_any _ HE1.out.1 HE1.out.2).mono ?_
    rintro e w2 ⟨rfl, b2⟩
    have HB2 : Hid (Below w.heap.size w w2) := HB1.out.trans (b2.mono HB1.out.size)
    clear b2
    go_wp2
    go_ret
    exact ⟨rfl, HB2.out⟩
  | ok ps r =>
    obtain ⟨v, rfl, hrow⟩ := hA.ok (by omega) hp
    have hpos := fil_pos (show rFil (t.data.toList.length + 1) [] t.data.toList = .ok ps r from hp)
    obtain ⟨g, c, hv, _⟩ := fil_cells hrow (by omega) ⟨[], 0, 0, 0, []⟩
    subst hv
    have HP : Hid (pars t.data.toList = .ok ps r) := hp
    clear hA hrow hp
    have hps : (1 : Int) ≤ (ps.length : Int) := by omega
    by_cases g0 : a1 < 0
    · go_wp2_with fail
      refine (awake6_any _ HE1.out.1 HE1.out.2).mono ?_
      rintro e w2 ⟨rfl, b2⟩
      have HB2 : Hid (Below w.heap.size w w2) := HB1.out.trans (b2.mono HB1.out.size)
      clear b2
      go_wp2
      go_ret
      exact ⟨rfl, HB2.out⟩
    · by_cases g1 : 2 < a1
      · go_wp2_with fail
        refine (awake6_any _ HE1.out.1 HE1.out.2).mono ?_
        rintro e w2 ⟨rfl, b2⟩
        have HB2 : Hid (Below w.heap.size w w2) := HB1.out.trans (b2.mono HB1.out.size)
        clear b2
        go_wp2
        go_ret
        exact ⟨rfl, HB2.out⟩
      · obtain ⟨n, rfl⟩ : ∃ n : Nat, a1 = n := ⟨a1.toNat, by omega⟩
        have hn2 : n ≤ 2 := by omega
        obtain ⟨bb, rr, hbad, hrl⟩ := bad_fails n hn2 ps
        have HBad : Hid (rFil ((32 :: zBad n).length + 1) ps (32 :: zBad n) = .fail bb rr ∧ rr.length ≤ (zBad n).length) := ⟨hbad, hrl⟩
        clear hbad hrl
        have HS : Hid (∀ B : ByteArray, B.data.toList = zBad n → pars (t ++ ⟨#[32, 97, 110, 100, 32]⟩ ++ B).data.toList = .fail bb rr ∧ (t ++ ⟨#[32, 97, 110, 100, 32]⟩ ++ B).size = t.size + 5 + (zBad n).length) := fun B hB => by
          have e : (t ++ ⟨#[32, 97, 110, 100, 32]⟩ ++ B).data.toList = t.data.toList ++ 32 :: 97 :: 110 :: 100 :: 32 :: zBad n := by
            rw [app_list, hB]; rfl
          refine ⟨by rw [e, pars_app HP.out]; exact HBad.out.1, ?_⟩
          show (t ++ ⟨#[32, 97, 110, 100, 32]⟩ ++ B).data.size = _
          rw [← Array.length_toList, e]
          have ht : t.data.toList.length = t.size := by simp
          simp only [List.length_append, List.length_cons, ht]
          omega
        have hzl : (zBad n).length ≤ 9 := by
          rcases (show n = 0 ∨ n = 1 ∨ n = 2 by omega) with rfl | rfl | rfl <;> decide
        have hrl := HBad.out.2
        obtain ⟨zl, hzz⟩ : ∃ zl, zl = (zBad n).length := ⟨_, rfl⟩
        rw [← hzz] at HS hzl hrl
        clear hzz HBad
        have hb2 : Below w1'.heap.size w1' (w1'.alloc (.cells #[.string ⟨#[120, 32, 105, 110]⟩, .string ⟨#[120, 32, 61, 32, 34]⟩, .string ⟨#[88, 32, 105, 110, 32, 49, 46, 46, 50]⟩] 9)) := (Below.refl _ _).alloc (Nat.le_refl _) _
        have HB2 : Hid (Below w.heap.size w (w1'.alloc (.cells #[.string ⟨#[120, 32, 105, 110]⟩, .string ⟨#[120, 32, 61, 32, 34]⟩, .string ⟨#[88, 32, 105, 110, 32, 49, 46, 46, 50]⟩] 9)) ∧ Env (w1'.alloc (.cells #[.string ⟨#[120, 32, 105, 110]⟩, .string ⟨#[120, 32, 61, 32, 34]⟩, .string ⟨#[88, 32, 105, 110, 32, 49, 46, 46, 50]⟩] 9)) ∧ ErrType (w1'.alloc (.cells #[.string ⟨#[120, 32, 105, 110]⟩, .string ⟨#[120, 32, 61, 32, 34]⟩, .string ⟨#[88, 32, 105, 110, 32, 49, 46, 46, 50]⟩] 9))) :=
          ⟨HB1.out.trans (hb2.mono HB1.out.size), HE1.out.1.below hb2 HE1.out.1.lt, HE1.out.2.below HE1.out.2.lt hb2⟩
        clear hb2
        rcases (show n = 0 ∨ n = 1 ∨ n = 2 by omega) with rfl | rfl | rfl
        · go_wp2_with fail
          obtain ⟨hf, hsz⟩ := HS.out ⟨#[120, 32, 105, 110]⟩ rfl
          generalize t ++ ⟨#[32, 97, 110, 100, 32]⟩ ++ ⟨#[120, 32, 105, 110]⟩ = S at hf hsz ⊢
          generalize (w1'.alloc (.cells #[.string ⟨#[120, 32, 105, 110]⟩, .string ⟨#[120, 32, 61, 32, 34]⟩, .string ⟨#[88, 32, 105, 110, 32, 49, 46, 46, 50]⟩] 9)) = W2 at HB2 ⊢
          refine (parse_any S _ HB2.out.2.1 (by unfold maxLen; omega)).mono ?_
          rintro e w3 ⟨hA, b3⟩
          obtain ⟨N, rfl, hF⟩ := hA.fail (by omega) hf
          have hpl : ((t.size : Int) + 5) ≤ ((S.size - rr.length : Nat) : Int) := by omega
          obtain ⟨pl, hple⟩ : ∃ pl : Int, pl = ((S.size - rr.length : Nat) : Int) := ⟨_, rfl⟩
          rw [← hple] at hF hpl
          have HF : Hid (FaultAt w3 N pl 2) := hF
          have HB3 : Hid (Below w.heap.size w w3 ∧ Env w3 ∧ ErrType w3) := ⟨HB2.out.1.trans (b3.mono HB2.out.1.size), HB2.out.2.1.below b3 HB2.out.2.1.lt, HB2.out.2.2.below HB2.out.2.2.lt b3⟩
          clear hA hF b3 hf hsz hple
          go_wp2_with fail
          refine (awake6_any _ HB3.out.2.1 HB3.out.2.2).mono ?_
          rintro e w4 ⟨rfl, b4⟩
          have HF4 : Hid (FaultAt w4 N pl 2) := HF.out.below b4
          have HB4 : Hid (Below w.heap.size w w4 ∧ ErrType w4) := ⟨HB3.out.1.trans (b4.mono HB3.out.1.size), HB3.out.2.2.below HB3.out.2.2.lt b4⟩
          clear b4
          go_wp2_with fail
          refine (is_faultl N 2 pl _ HF4.out).mono ?_
          rintro e w' ⟨rfl, hw'⟩
          subst w'
          go_wp2_with fail
          refine (at_fl N pl 2 _ HB4.out.2 HF4.out).mono ?_
          rintro e w5 ⟨rfl, b5⟩
          have HB5 : Hid (Below w.heap.size w w5) := HB4.out.1.trans (b5.mono HB4.out.1.size)
          clear b5
          go_wp2
          all_goals first
            | (go_ret; exact ⟨rfl, HB5.out⟩)
            | (exfalso; omega)
        · go_wp2_with fail
          obtain ⟨hf, hsz⟩ := HS.out ⟨#[120, 32, 61, 32, 34]⟩ rfl
          generalize t ++ ⟨#[32, 97, 110, 100, 32]⟩ ++ ⟨#[120, 32, 61, 32, 34]⟩ = S at hf hsz ⊢
          generalize (w1'.alloc (.cells #[.string ⟨#[120, 32, 105, 110]⟩, .string ⟨#[120, 32, 61, 32, 34]⟩, .string ⟨#[88, 32, 105, 110, 32, 49, 46, 46, 50]⟩] 9)) = W2 at HB2 ⊢
          refine (parse_any S _ HB2.out.2.1 (by unfold maxLen; omega)).mono ?_
          rintro e w3 ⟨hA, b3⟩
          obtain ⟨N, rfl, hF⟩ := hA.fail (by omega) hf
          have hpl : ((t.size : Int) + 5) ≤ ((S.size - rr.length : Nat) : Int) := by omega
          obtain ⟨pl, hple⟩ : ∃ pl : Int, pl = ((S.size - rr.length : Nat) : Int) := ⟨_, rfl⟩
          rw [← hple] at hF hpl
          have HF : Hid (FaultAt w3 N pl 2) := hF
          have HB3 : Hid (Below w.heap.size w w3 ∧ Env w3 ∧ ErrType w3) := ⟨HB2.out.1.trans (b3.mono HB2.out.1.size), HB2.out.2.1.below b3 HB2.out.2.1.lt, HB2.out.2.2.below HB2.out.2.2.lt b3⟩
          clear hA hF b3 hf hsz hple
          go_wp2_with fail
          refine (awake6_any _ HB3.out.2.1 HB3.out.2.2).mono ?_
          rintro e w4 ⟨rfl, b4⟩
          have HF4 : Hid (FaultAt w4 N pl 2) := HF.out.below b4
          have HB4 : Hid (Below w.heap.size w w4 ∧ ErrType w4) := ⟨HB3.out.1.trans (b4.mono HB3.out.1.size), HB3.out.2.2.below HB3.out.2.2.lt b4⟩
          clear b4
          go_wp2_with fail
          refine (is_faultl N 2 pl _ HF4.out).mono ?_
          rintro e w' ⟨rfl, hw'⟩
          subst w'
          go_wp2_with fail
          refine (at_fl N pl 2 _ HB4.out.2 HF4.out).mono ?_
          rintro e w5 ⟨rfl, b5⟩
          have HB5 : Hid (Below w.heap.size w w5) := HB4.out.1.trans (b5.mono HB4.out.1.size)
          clear b5
          go_wp2
          all_goals first
            | (go_ret; exact ⟨rfl, HB5.out⟩)
            | (exfalso; omega)
        · go_wp2_with fail
          obtain ⟨hf, hsz⟩ := HS.out ⟨#[88, 32, 105, 110, 32, 49, 46, 46, 50]⟩ rfl
          generalize t ++ ⟨#[32, 97, 110, 100, 32]⟩ ++ ⟨#[88, 32, 105, 110, 32, 49, 46, 46, 50]⟩ = S at hf hsz ⊢
          generalize (w1'.alloc (.cells #[.string ⟨#[120, 32, 105, 110]⟩, .string ⟨#[120, 32, 61, 32, 34]⟩, .string ⟨#[88, 32, 105, 110, 32, 49, 46, 46, 50]⟩] 9)) = W2 at HB2 ⊢
          refine (parse_any S _ HB2.out.2.1 (by unfold maxLen; omega)).mono ?_
          rintro e w3 ⟨hA, b3⟩
          obtain ⟨N, rfl, hF⟩ := hA.fail (by omega) hf
          have hpl : ((t.size : Int) + 5) ≤ ((S.size - rr.length : Nat) : Int) := by omega
          obtain ⟨pl, hple⟩ : ∃ pl : Int, pl = ((S.size - rr.length : Nat) : Int) := ⟨_, rfl⟩
          rw [← hple] at hF hpl
          have HF : Hid (FaultAt w3 N pl 2) := hF
          have HB3 : Hid (Below w.heap.size w w3 ∧ Env w3 ∧ ErrType w3) := ⟨HB2.out.1.trans (b3.mono HB2.out.1.size), HB2.out.2.1.below b3 HB2.out.2.1.lt, HB2.out.2.2.below HB2.out.2.2.lt b3⟩
          clear hA hF b3 hf hsz hple
          go_wp2_with fail
          refine (awake6_any _ HB3.out.2.1 HB3.out.2.2).mono ?_
          rintro e w4 ⟨rfl, b4⟩
          have HF4 : Hid (FaultAt w4 N pl 2) := HF.out.below b4
          have HB4 : Hid (Below w.heap.size w w4 ∧ ErrType w4) := ⟨HB3.out.1.trans (b4.mono HB3.out.1.size), HB3.out.2.2.below HB3.out.2.2.lt b4⟩
          clear b4
          go_wp2_with fail
          refine (is_faultl N 2 pl _ HF4.out).mono ?_
          rintro e w' ⟨rfl, hw'⟩
          subst w'
          go_wp2_with fail
          refine (at_fl N pl 2 _ HB4.out.2 HF4.out).mono ?_
          rintro e w5 ⟨rfl, b5⟩
          have HB5 : Hid (Below w.heap.size w w5) := HB4.out.1.trans (b5.mono HB4.out.1.size)
          clear b5
          go_wp2
          all_goals first
            | (go_ret; exact ⟨rfl, HB5.out⟩)
            | (exfalso; omega)

/-! ### THE ROW's STEP: WRITTEN OUT: LEAVE IT -/
set_option maxRecDepth 100000 in
set_option maxHeartbeats 8000000 in
theorem lifted (os : Os) (started : os.Started) (H : Type) (enc : TypeId × Value → H) :
    ReturnsInHanded {} Tryd.checked os 6 .any (fun w args => (Rows.filterPlacesSpec.pre enc Tryd.prog Tryd.f6 [] false w args ∧ laidMetH Tryd.prog Rows.filterPlacesRow.laid w) ∧ sizedMet enc Tryd.prog Tryd.f6 (OpenSpec.ofChange Rows.filterPlacesSpec) false w args) (Rows.filterPlacesSpec.post enc Tryd.prog Tryd.f6 false true false false) := by
  refine returnsInHanded_of_change_and (C := Tryd.checked) (X := fun w _ => laidMetH Tryd.prog Rows.filterPlacesRow.laid w) (fun _ _ _ hh h => h.of_heap hh) own started (by kernel_rfl) Tryd.func6
    (ChangeSpec.witness_at (enc := enc) (C := Tryd.checked) (os := os) (X := fun w _ => laidMetH Tryd.prog Rows.filterPlacesRow.laid w) false ({ World.holding Tryd.prog os ⟨#[], #[], []⟩ with heap := witHeap (World.holding Tryd.prog os ⟨#[], #[], []⟩).heap }) #[.string ByteArray.empty, .int .i64 0] 8 rfl (by kernel_rfl) (by kernel_rfl) (by kernel_rfl) (by kernel_rfl) (by kernel_rfl) (laidMetH_of_parts (laidMet_of_run' 8 (by kernel_rfl) (by kernel_rfl)) (by kernel_rfl))) ?_
  intro W base args ds gs before hval0 hW _ _ hL _
  have hval : ∀ (j : Nat) t v, Tryd.f6.params[j]? = some t → args[j]? = some v → Value.okWide Tryd.prog W .any base t v := hval0
  have hW' := hW
  obtain ⟨p, q, hA0, hV, rfl, hfz, hnd⟩ := hW
  have hA : DataW.TrodAll enc Tryd.prog W 0 (fun _ => true) true Tryd.f6.params.toList args.toList ds p := hA0
  rw [Tryd.params6] at hA hval
  obtain ⟨v0, vs0, d0, ds0, p0, q0, hargs, rfl, rfl, h0, r0⟩ := trodAll_cons hA
  obtain ⟨v1, vs1, d1, ds1, p1, q1, rfl, rfl, rfl, h1, r1⟩ := trodAll_cons r0
  obtain ⟨rfl, rfl, rfl⟩ := trodAll_nil r1
  obtain rfl : args = #[v0, v1] := by cases args; simp_all
  obtain ⟨rfl, rfl⟩ := trodVars_none hV
  obtain ⟨a0, rfl, rfl, rfl, w0⟩ := open_string Tryd.underlying9 (hval 0 9 v0 rfl rfl) h0
  obtain ⟨a1, rfl, rfl, rfl, w1⟩ := open_int Tryd.underlying3 (hval 1 3 v1 rfl rfl) h1
  clear hA0 hval0
  simp only [List.append_nil] at hW'
  have hEV := env_of_laid hL
  have hE := hEV.2
  have hV := hEV.1
  refine (walk a0 a1 w0 w1 W hE hV).mono fun e W' ⟨he, bel⟩ => ?_
  subst he
  exact ⟨_, rfl, _, _, _, [], [], [], hW', trodAll_mk1 (shut_bool Tryd.underlying4 _), (trodAll_cons_mk (shut_string Tryd.underlying9 w0) (trodAll_cons_mk (shut_int Tryd.underlying3 w1) trodAll_mk0)), rfl, bel.frame _, fun h => by cases h⟩

theorem over : Rows.filterPlacesRow.holds Tryd.pinned (OpenSpec.ofChange Rows.filterPlacesSpec) :=
  OpenClaim.holds_of_wide 6 Tryd.f6 rfl rfl rfl rfl rfl rfl rfl ⟨rfl, rfl, rfl, rfl, rfl⟩ rfl rfl rfl rfl rfl (by kernel_rfl) Tryd.func6 (by kernel_rfl)
    (of_decide_eq_true (by kernel_rfl)) (by unfold Func.isWrapper; first | (rw [if_pos (by decide +kernel)]; kernel_rfl) | (rw [if_neg (by decide +kernel)]; exact ⟨rfl, rfl⟩))
    (fun os started H enc _ => lifted os started H enc)

theorem card : Rows.FilterPlacesCardSaid :=
  Claim7.holds_tied_plain_at .later [] [.data, .data, .data, .handle, .sentinel, .sentinel] true (true, "9181197483563d07d2a5994f3552607cc27dd103e0fd44f648ccbcdd705e4bb4") true
    over (fun _ h => by cases h) (by kernel_rfl) (fun _ h => by cases h) filterPlaces_row_tie rfl ⟨rfl, rfl⟩ (by kernel_rfl) rfl
    (fun f fn hf hfn => by
      obtain rfl : f = 6 := Option.some.inj ((show Tryd.prog.funcNamed "wigwag/wigwaglaw06.FilterPlaces" = some 6 by kernel_rfl).symm.trans hf) |>.symm
      obtain rfl : fn = Tryd.f6 := (Option.some.inj (Tryd.func6.symm.trans hfn)).symm
      exact ⟨by kernel_rfl, fun j t ht => by
        rw [Tryd.params6] at ht
        have hall : ∀ t ∈ ([9, 3] : List TypeId), Tryd.prog.wantsStandIn t = false := by
          intro t ht
          simp only [List.mem_cons, List.not_mem_nil, or_false] at ht
          rcases ht with rfl | rfl <;> kernel_rfl
        exact hall t (by simpa using List.mem_of_getElem? (l := ([9, 3] : List TypeId)) (i := j) (by simpa using ht))⟩)
    (by kernel_rfl)

end Go.Proofs.YtkjggffignlnjaaDoor.filterPlaces

namespace Go.Proofs.YtkjggffignlnjaaDoor
/-- Proved: for every text and every number, FilterPlaces answers true (a text of several predicates in which one is spoilt is told at or behind where that one begins; of texts of at most 100 bytes, the first of which is a filter), the library's variables being laid as the program's text lays them (the card's tie). -/
theorem filterPlaces_holds : Rows.FilterPlacesCardSaid := filterPlaces.card
#print axioms filterPlaces_holds
end Go.Proofs.YtkjggffignlnjaaDoor
