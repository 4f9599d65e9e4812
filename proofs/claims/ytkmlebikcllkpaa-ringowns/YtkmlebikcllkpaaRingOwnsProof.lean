/- Proved: for every list of places and every place, RingOwns answers true (Sorted of the first 60 is the document's sorted list of them, and Owner of it is the document's).
  The frame is the guide's own shell (proof-skeleton.mjs) at this function; the walk and all ahead of it are mine. -/
import Derived.Test.YtkmlebikcllkpaaRows
import Derived.Test.YtkmlebikcllkpaaRingMath
import Derived.Test.YtkmlebikcllkpaaRing
import Derived.Test.YtkmlebikcllkpaaAwake
import Derived.Test.YtkmlebikcllkpaaRefOwner
import Derived.Test.YtkmlebikcllkpaaLawIds
import Derived.WalkKit
import Derived.WalkLawsBesides
import Derived.ProofKit
import Derived.OpenShut
import Derived.ShutString
import Derived.ChangeOld
import Derived.Below
namespace Go.Proofs.Ytkmlebikcllkpaa.ringOwns
open Go.ChangeShapes Go.WideShapes Go.ChangeAt Go.RowKit
open Go.ChangeMaps (open_string shut_string)
set_option linter.unusedVariables false

theorem own : ownKnob Try.prog.godebug = none := by kernel_rfl
theorem laidOut : laidOutB Try.prog = true := by kernel_rfl

/-- WHAT THE WALK IS TOLD OF A SLICE OF INTEGERS THAT CAME IN: it is nil; or it leads to a row of 'cap' cells, the numbers 'zs' (the first 'len' are its elements, the rest its spare room), each fitting its kind. -/
def IsRow (k : IntKind) (w : World) (a : Option Addr) (len cap : Nat) (zs : List Int) : Prop :=
  (a = none ∧ len = 0 ∧ cap = 0 ∧ zs = []) ∨
  ∃ x, a = some x ∧ len ≤ cap ∧ cap ≤ maxLen ∧ zs.length = cap ∧ (∀ i, i < zs.length → w.cell? (x.add i) = some (.int k (zs.getD i 0))) ∧ ∀ n ∈ zs, (Lit.int k n).wf = true


/-! ### STEP 1: THE WALK: the Go text returns true, AND WRITES NOTHING THAT WAS THERE: 'Below w.heap.size w w'' (Derived/Below.lean: '.refl', '.alloc', '.drew', '.setCell' at a new block, '.trans'). Open each 'IsRow' by 'rcases' AHEAD of 'go_enter'; part every test ahead of the walk. -/
theorem walk (a0 : Option Addr) (len0 cap0 : Nat) (z0 : List Int) (a1 : Int) (w : World) (w0 : IsRow .u64 w a0 len0 cap0 z0) (w1 : (Lit.int .u64 a1).wf = true) :
    Calls Try.prog 5 #[.slice a0 len0 cap0, .int .u64 a1] w fun e w' => e = .returned (.bool true) ∧ Below w.heap.size w w' := by
  have hb1 := bounds_u64 w1
  have HX : Hid (0 ≤ a1 ∧ a1 ≤ 18446744073709551615) := hb1
  clear hb1
  by_cases h60 : 60 < len0
  case' pos =>
    obtain ⟨hI, hU, hlc, hcm⟩ := ids_of w0 60 (by omega)
    obtain ⟨l, hl⟩ : ∃ l, l = z0.take 60 := ⟨_, rfl⟩
    rw [← hl] at hI hU
    have HW : Hid (IsRow .u64 w a0 len0 cap0 z0) := w0
    clear hl w0
    go_enter Try.func5, Try.ntmps5
    go_wp2_with fail
  case' neg =>
    obtain ⟨hI, hU, hlc, hcm⟩ := ids_of w0 len0 (by omega)
    obtain ⟨l, hl⟩ : ∃ l, l = z0.take len0 := ⟨_, rfl⟩
    rw [← hl] at hI hU
    have HW : Hid (IsRow .u64 w a0 len0 cap0 z0) := w0
    clear hl w0
    go_enter Try.func5, Try.ntmps5
    go_wp2_with fail
  all_goals
    have hll : l.length ≤ 60 := by have := hI.1; omega
    refine (sorted_any a0 _ cap0 l w hI (by omega)).mono ?_
    rintro e1 w1' ⟨v, R, rfl, b1, o1, rR, mR, lR⟩
    obtain ⟨ga, gc, rfl, hgc, iR⟩ := o1.ids
    have hRl : R.length ≤ 60 := by
      have := nodup_len R l rR (fun x hx => (mR x).1 hx)
      omega
    have H1 : Hid (Below w.heap.size w w1' ∧ IdsAt w1' ga R.length R ∧ R.Pairwise (· < ·) ∧ (∀ x, x ∈ R ↔ x ∈ l) ∧ InU R ∧ IdsAt w1' a0 _ l) := ⟨b1, iR, rR, mR, fun y hy => hU y ((mR y).1 hy), hI.carry b1⟩
    clear b1 o1 rR mR iR hI hU
    go_wp2_with fail
    go_at_call 23
    refine (ids_any a0 _ cap0 l w1' H1.out.2.2.2.2.2 (by omega)).mono ?_
    rintro e2 w2' ⟨u, rfl, M2⟩
    obtain ⟨ua, uc, rfl⟩ := M2.shape
    have H2 : Hid (Made w1' w2' (.slice ua l.length uc) l) := M2
    clear M2
    go_wp2_with fail
    go_at_call 22
    refine (refsorted_any ua _ uc l w2' (H2.out.ids rfl) hll).mono ?_
    rintro e3 w3' ⟨s, rfl, S, M3, rS, mS⟩
    obtain rfl : S = R := rising_same S R rS H1.out.2.2.1 (fun x => (mS x).trans (H1.out.2.2.2.1 x).symm)
    obtain ⟨sa, sc, rfl⟩ := M3.shape
    have b3 : Below w.heap.size w (w3'.alloc (.cells #[.int .u64 3, .int .u64 9] 23)) :=
      ((H1.out.1.trans (H2.out.below.mono H1.out.1.size)).trans (M3.below.mono (Nat.le_trans H1.out.1.size H2.out.size))).alloc (Nat.le_trans H1.out.1.size (Nat.le_trans H2.out.size M3.size)) _
    have b4 : Below w3'.heap.size w3' (w3'.alloc (.cells #[.int .u64 3, .int .u64 9] 23)) := (Below.refl _ _).alloc (Nat.le_refl _) _
    have H3 : Hid (Below w.heap.size w (w3'.alloc (.cells #[.int .u64 3, .int .u64 9] 23)) ∧ IdsAt (w3'.alloc (.cells #[.int .u64 3, .int .u64 9] 23)) ga S.length S ∧ IdsAt (w3'.alloc (.cells #[.int .u64 3, .int .u64 9] 23)) sa S.length S) :=
      ⟨b3, ((H1.out.2.1.carry H2.out.below).carry M3.below).carry b4, (M3.ids rfl).carry b4⟩
    clear M3 rS mS b3 b4
    go_wp2_with (go_at_call 9; refine (awake_any _).mono ?_; rintro e' w' ⟨rfl, rfl⟩)
    obtain ⟨w4, hw4⟩ : ∃ w4, w4 = w3'.alloc (.cells #[.int .u64 3, .int .u64 9] 23) := ⟨_, rfl⟩
    rw [← hw4] at H3
    rw [← hw4]
    clear hw4
    go_loopw [29] (fun q wr => ∃ j : Nat, j ≤ S.length ∧ q = .int .i64 j ∧ Below w4.heap.size w4 wr) (fun q _ => S.length - (intOf q).toNat)
    case atStart => exact ⟨0, Nat.zero_le _, rfl, Below.refl _ _⟩
    case round =>
      obtain ⟨j, hj, rfl, hW⟩ := hrel
      have HI : Hid (IdsAt wr ga S.length S ∧ IdsAt wr sa S.length S ∧ Below w4.heap.size w4 wr) := ⟨H3.out.2.1.carry hW, H3.out.2.2.carry hW, hW⟩
      clear hW
      by_cases hlt : j < S.length
      · obtain ⟨b, o, ha, hc⟩ : ∃ b o, ga = some ⟨b, o, none⟩ ∧ wr.cell? ⟨b, o + j, none⟩ = some (.int .u64 (S.getD j 0)) := by
          rcases HI.out.1.2 with h0 | ⟨b, o, ha, hc⟩
          · omega
          · exact ⟨b, o, ha, hc j hlt⟩
        obtain ⟨b2, o2, ha2, hc2⟩ : ∃ b o, sa = some ⟨b, o, none⟩ ∧ wr.cell? ⟨b, o + j, none⟩ = some (.int .u64 (S.getD j 0)) := by
          rcases HI.out.2.1.2 with h0 | ⟨b, o, ha, hc⟩
          · omega
          · exact ⟨b, o, ha, hc j hlt⟩
        obtain ⟨y, hy⟩ : ∃ y, y = S.getD j 0 := ⟨_, rfl⟩
        rw [← hy] at hc hc2
        clear hy
        subst ha
        subst ha2
        have hlt2 : (j : Int) < (S.length : Int) := by omega
        go_wp2_with fail
        go_quiet (fail)
        go_wp2
        go_roundw
        case rel => exact ⟨j + 1, by omega, by go_num, HI.out.2.2.trans (below_drewN _ _ _)⟩
        case measure => simp [intOf]; omega
      · go_wp2_with fail
        go_at_call 24
        refine (owner_ids ga _ gc S a1 wr HI.out.1 (by omega)).mono ?_
        rintro e' w' ⟨rfl, rfl⟩
        go_wp2_with fail
        go_at_call 25
        refine (refowner_any sa _ sc S a1 _ HI.out.2.1 (by omega) H1.out.2.2.2.2.1 HX.out).mono ?_
        rintro e' w5 ⟨b, rfl, b5, hB⟩
        obtain rfl := best_owner H1.out.2.2.1 H1.out.2.2.2.2.1 HX.out hB
        have HE : Hid (Below w.heap.size w w5) := (H3.out.1.trans (HI.out.2.2.mono H3.out.1.size)).trans (b5.mono (Nat.le_trans H3.out.1.size HI.out.2.2.size))
        clear b5 hB
        go_wp2
        go_ret
        exact ⟨by simp, HE.out⟩

/-! ### THE ROW's STEP: WRITTEN OUT: LEAVE IT -/
set_option maxRecDepth 100000 in
theorem lifted (os : Os) (started : os.Started) (H : Type) (enc : TypeId × Value → H) :
    ReturnsInHanded {} Try.checked os 5 .any (Rows.ringOwnsSpec.pre6 enc Try.prog Try.f5 Rows.ringOwnsRow.domain false) (Rows.ringOwnsSpec.post enc Try.prog Try.f5 false true false false) := by
  refine returnsInHanded_of_change (C := Try.checked) own started (by kernel_rfl) Try.func5
    (ChangeSpec.witness6 (enc := enc) (C := Try.checked) false ⟨#[], #[.slice none 0 0, .int .u64 0], []⟩ 8 (by kernel_rfl) (by kernel_rfl) (by kernel_rfl) (by kernel_rfl)) ?_
  intro W base args ds gs before hval0 hW hcnd _
  have hval : ∀ (j : Nat) t v, Try.f5.params[j]? = some t → args[j]? = some v → Value.okWide Try.prog W .any base t v := hval0
  have hW' := hW
  obtain ⟨p, q, hA0, hV, rfl, hfz, hnd⟩ := hW
  have hA : DataW.TrodAll enc Try.prog W 0 (fun _ => true) true Try.f5.params.toList args.toList ds p := hA0
  rw [Try.params5] at hA hval
  obtain ⟨v0, vs0, d0, ds0, p0, q0, hargs, rfl, rfl, h0, r0⟩ := trodAll_cons hA
  obtain ⟨v1, vs1, d1, ds1, p1, q1, rfl, rfl, rfl, h1, r1⟩ := trodAll_cons r0
  obtain ⟨rfl, rfl, rfl⟩ := trodAll_nil r1
  obtain rfl : args = #[v0, v1] := by cases args; simp_all
  obtain ⟨rfl, rfl⟩ := trodVars_none hV
  obtain ⟨a0, len0, cap0, rfl⟩ := okWide_slice Try.underlying36 (hval 0 36 v0 rfl rfl)
  have k0 := h0
  have lt0 : ∀ x ∈ p0, x.block < W.heap.size := by obtain ⟨m, hm⟩ := k0; exact DataW.trod_lt m _ _ _ hm
  obtain ⟨z0, w0⟩ : ∃ zs, IsRow .u64 W a0 len0 cap0 zs := by
    obtain ⟨fuel, hf⟩ := h0
    rcases open_ints Try.underlying36 Try.underlying23 (by kernel_rfl) hf with ⟨hcs, _⟩ | ⟨x, l, c, zs, hcs, _, hl, hm, hz, _, hcell, hwz⟩
    · simp [Value.cells] at hcs
      obtain ⟨rfl, rfl, rfl⟩ := hcs
      exact ⟨[], .inl ⟨rfl, rfl, rfl, rfl⟩⟩
    · simp [Value.cells] at hcs
      obtain ⟨rfl, rfl, rfl⟩ := hcs
      exact ⟨zs, .inr ⟨_, rfl, hl, hm, by simpa using hz, hcell, hwz⟩⟩
  obtain ⟨a1, rfl, rfl, rfl, w1⟩ := open_int Try.underlying23 (hval 1 23 v1 rfl rfl) h1
  clear hA0 hval0
  refine (walk a0 len0 cap0 z0 a1 W w0 w1).mono fun e W' ⟨he, bel⟩ => ?_
  subst he
  exact ⟨_, rfl, _, _, _, [], _, [], hW', trodAll_mk1 (shut_bool Try.underlying4 _), (trodAll_cons_mk (Below.trod laidOut (by kernel_rfl) (of_decide_eq_true (by kernel_rfl)) k0 bel lt0) (trodAll_cons_mk (shut_int Try.underlying23 w1) trodAll_mk0)), rfl, bel.frame _, fun h => by cases h⟩

theorem over : Rows.ringOwnsRow.holds Try.pinned (OpenSpec.ofChange Rows.ringOwnsSpec) :=
  OpenClaim.holds_of_wide 5 Try.f5 rfl rfl rfl rfl rfl rfl rfl ⟨rfl, rfl, rfl, rfl, rfl⟩ rfl rfl rfl rfl rfl (by kernel_rfl) Try.func5 (by kernel_rfl)
    (of_decide_eq_true (by kernel_rfl)) (by unfold Func.isWrapper; first | (rw [if_pos (by decide +kernel)]; kernel_rfl) | (rw [if_neg (by decide +kernel)]; exact ⟨rfl, rfl⟩))
    (fun os started H enc _ => lifted os started H enc)

end Go.Proofs.Ytkmlebikcllkpaa.ringOwns

namespace Go.Proofs.Ytkmlebikcllkpaa
/-- Proved: for every list of places and every place, RingOwns answers true (Sorted of the first 60 is the document's sorted list of them, and Owner of it is the document's). -/
theorem ringOwns_holds : Rows.RingOwnsSaid := ringOwns.over
#print axioms ringOwns_holds
end Go.Proofs.Ytkmlebikcllkpaa
