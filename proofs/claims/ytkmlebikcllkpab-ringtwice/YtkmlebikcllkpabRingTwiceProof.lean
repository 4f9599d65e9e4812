/- Proved: for every list of places, RingTwice answers true (of the first 40: sorting what is sorted changes nothing, it rises, and each place that was there is there).
  The frame is the guide's own shell (proof-skeleton.mjs) at this function; the walk and all ahead of it are mine. -/
import Derived.Test.YtkmlebikcllkpabRows
import Derived.Test.YtkmlebikcllkpabRingMath
import Derived.Test.YtkmlebikcllkpabRing
import Derived.Test.YtkmlebikcllkpabAwake
import Derived.Test.YtkmlebikcllkpabRiseMath
import Derived.Test.YtkmlebikcllkpabLawIds
import Derived.WalkKit
import Derived.WalkLawsBesides
import Derived.ProofKit
import Derived.OpenShut
import Derived.ShutString
import Derived.ChangeOld
import Derived.Below
namespace Go.Proofs.Ytkmlebikcllkpab.ringTwice
open Go.ChangeShapes Go.WideShapes Go.ChangeAt Go.RowKit
open Go.ChangeMaps (open_string shut_string)
set_option linter.unusedVariables false

theorem own : ownKnob Try.prog.godebug = none := by kernel_rfl
theorem laidOut : laidOutB Try.prog = true := by kernel_rfl

/-- WHAT THE WALK IS TOLD OF A SLICE OF INTEGERS THAT CAME IN: it is nil; or it leads to a row of 'cap' cells, the numbers 'zs' (the first 'len' are its elements, the rest its spare room), each fitting its kind. -/
def IsRow (k : IntKind) (w : World) (a : Option Addr) (len cap : Nat) (zs : List Int) : Prop :=
  (a = none ∧ len = 0 ∧ cap = 0 ∧ zs = []) ∨
  ∃ x, a = some x ∧ len ≤ cap ∧ cap ≤ maxLen ∧ zs.length = cap ∧ (∀ i, i < zs.length → w.cell? (x.add i) = some (.int k (zs.getD i 0))) ∧ ∀ n ∈ zs, (Lit.int k n).wf = true


/-! ### STEP 1: THE WALK: the Go text returns true, AND WRITES NOTHING THAT WAS THERE: 'Below w.heap.size w w'' (Derived/Below.lean: '.refl', '.alloc', '.drew', '.setCell' at a new block, '.trans'). Open each 'IsRow' by 'rcases' AHEAD of 'go_enter'; part every test ahead of the walk. -/
set_option maxRecDepth 100000 in
set_option maxHeartbeats 2000000 in
theorem walk (a0 : Option Addr) (len0 cap0 : Nat) (z0 : List Int) (w : World) (w0 : IsRow .u64 w a0 len0 cap0 z0) :
    Calls Try.prog 5 #[.slice a0 len0 cap0] w fun e w' => e = .returned (.bool true) ∧ Below w.heap.size w w' := by
  by_cases h40 : 40 < len0
  case' pos =>
    obtain ⟨hI, hU, hlc, hcm⟩ := ids_of w0 40 (by omega)
    obtain ⟨l, hl⟩ : ∃ l, l = z0.take 40 := ⟨_, rfl⟩
    rw [← hl] at hI hU
    have HW : Hid (IsRow .u64 w a0 len0 cap0 z0) := w0
    clear hl w0
    go_enter Try.func5, Try.ntmps5
    go_wp2_with fail
  case' neg =>
    obtain ⟨hI, hU, hlc, hcm⟩ := ids_of w0 len0 (by omega)
    obtain ⟨l, hl⟩ : ∃ l, l = z0.take len0 := ⟨_, rfl⟩
    rw [← hl] at hI hU
    have HW : Hid (IsRow .u64 w a0 len0 cap0 z0) := w0
    clear hl w0
    go_enter Try.func5, Try.ntmps5
    go_wp2_with fail
  all_goals
    have hle := hI.1
    have hll : l.length ≤ 40 := by omega
    refine (sorted_any a0 _ cap0 l w hI (by omega)).mono ?_
    rintro e1 w1' ⟨v, R, rfl, b1, o1, rR, mR, lR⟩
    obtain ⟨ga, gc, rfl, hgc, iR⟩ := o1.ids
    have H1 : Hid (Below w.heap.size w w1' ∧ IdsAt w1' ga R.length R ∧ R.Pairwise (· < ·) ∧ (∀ x, x ∈ R ↔ x ∈ l) ∧ IdsAt w1' a0 _ l) := ⟨b1, iR, rR, mR, hI.carry b1⟩
    clear b1 o1 rR mR iR hI hU
    go_wp2_with fail
    go_at_call 10
    refine (sorted_any ga _ gc R w1' H1.out.2.1 lR).mono ?_
    rintro e2 w2' ⟨v2, T, rfl, b2, o2, rT, mT, lT⟩
    obtain rfl : T = R := rising_same T R rT H1.out.2.2.1 mT
    obtain ⟨ta, tc, rfl, htc, iT⟩ := o2.ids
    have H2 : Hid (Below w.heap.size w w2' ∧ IdsAt w2' ga T.length T ∧ IdsAt w2' ta T.length T ∧ IdsAt w2' a0 _ l) :=
      ⟨H1.out.1.trans (b2.mono H1.out.1.size), H1.out.2.1.carry b2, iT, H1.out.2.2.2.2.carry b2⟩
    clear b2 o2 rT mT iT lT
    go_wp2
    go_loopw [25] (fun q wr => ∃ j : Nat, j ≤ T.length ∧ q = .int .i64 j ∧ Below w2'.heap.size w2' wr) (fun q _ => T.length - (intOf q).toNat)
    case atStart => exact ⟨0, Nat.zero_le _, rfl, Below.refl _ _⟩
    case round =>
      obtain ⟨j, hj, rfl, hW⟩ := hrel
      have HI : Hid (IdsAt wr ga T.length T ∧ IdsAt wr ta T.length T ∧ IdsAt wr a0 _ l ∧ Below w2'.heap.size w2' wr) := ⟨H2.out.2.1.carry hW, H2.out.2.2.1.carry hW, H2.out.2.2.2.carry hW, hW⟩
      clear hW
      by_cases hlt : j < T.length
      · obtain ⟨b, o, ha, hc⟩ : ∃ b o, ga = some ⟨b, o, none⟩ ∧ ∀ j, j < T.length → wr.cell? ⟨b, o + j, none⟩ = some (.int .u64 (T.getD j 0)) := by
          rcases HI.out.1.2 with h0 | ⟨b, o, ha, hc⟩
          · omega
          · exact ⟨b, o, ha, hc⟩
        obtain ⟨b2, o2, ha2, hc2⟩ : ∃ b o, ta = some ⟨b, o, none⟩ ∧ wr.cell? ⟨b, o + j, none⟩ = some (.int .u64 (T.getD j 0)) := by
          rcases HI.out.2.1.2 with h0 | ⟨b, o, ha, hc⟩
          · omega
          · exact ⟨b, o, ha, hc j hlt⟩
        have hcj := hc j hlt
        subst ha
        subst ha2
        have hlt2 : (j : Int) < (T.length : Int) := by omega
        by_cases h0 : 0 < j
        · have hcp := hc (j - 1) (by omega)
          have hup := rising_getD H1.out.2.2.1 (j - 1) j (by omega) hlt
          clear hc
          obtain ⟨y, hy⟩ : ∃ y, y = T.getD j 0 := ⟨_, rfl⟩
          obtain ⟨u, hu⟩ : ∃ u, u = T.getD (j - 1) 0 := ⟨_, rfl⟩
          rw [← hy] at hcj hc2 hup
          rw [← hu] at hcp hup
          clear hy hu
          have h00 : (0 : Int) < (j : Int) := by omega
          have hnle : ¬ (y ≤ u) := by omega
          go_wp2_with fail
          go_quiet (fail)
          go_wp2
          go_roundw
          case rel => exact ⟨j + 1, by omega, by go_num, HI.out.2.2.2.trans (below_drewN _ _ _)⟩
          case measure => simp [intOf]; omega
        · obtain rfl : j = 0 := by omega
          clear hc
          obtain ⟨y, hy⟩ : ∃ y, y = T.getD 0 0 := ⟨_, rfl⟩
          rw [← hy, Nat.add_zero] at hcj hc2
          clear hy
          go_wp2_with fail
          go_quiet (fail)
          go_wp2
          go_roundw
          case rel => exact ⟨1, by omega, by go_num, HI.out.2.2.2.trans (below_drewN _ _ _)⟩
          case measure => simp [intOf]; omega
      · have HE : Hid (Below w.heap.size w wr) := H2.out.1.trans (HI.out.2.2.2.mono H2.out.1.size)
        go_wp2
        go_loop [56] (fun q => ∃ i : Nat, i ≤ l.length ∧ q = .int .i64 i) (fun q => l.length - (intOf q).toNat)
        case atStart => exact ⟨0, Nat.zero_le _, rfl⟩
        case round =>
          obtain ⟨i, hi, rfl⟩ := hrel
          by_cases hil : i < l.length
          · obtain ⟨b0, o0, ha0, hc0⟩ : ∃ b o, a0 = some ⟨b, o, none⟩ ∧ wr.cell? ⟨b, o + i, none⟩ = some (.int .u64 (l.getD i 0)) := by
              rcases HI.out.2.2.1.2 with h0 | ⟨b, o, ha, hc⟩
              · omega
              · exact ⟨b, o, ha, hc i (by omega)⟩
            obtain ⟨x, hxd⟩ : ∃ x, x = l.getD i 0 := ⟨_, rfl⟩
            rw [← hxd] at hc0
            have hxl : x ∈ l := by rw [hxd, List.getD_eq_getElem?_getD, List.getElem?_eq_getElem hil]; simp
            obtain ⟨m, hm, hml, hmx⟩ := owner_mem H1.out.2.2.1 ((H1.out.2.2.2.1 x).2 hxl)
            obtain ⟨b, o, ha, hcm'⟩ : ∃ b o, ga = some ⟨b, o, none⟩ ∧ wr.cell? ⟨b, o + m, none⟩ = some (.int .u64 (T.getD m 0)) := by
              rcases HI.out.1.2 with h0 | ⟨b, o, ha, hc⟩
              · omega
              · exact ⟨b, o, ha, hc m hml⟩
            rw [hmx] at hcm'
            clear hxd hxl hmx
            have HM : Hid (ownerN T x = m) := hm
            clear hm
            subst ha0
            subst ha
            have hm0 : ¬ ((m : Int) < 0) := by omega
            have hm1 : ¬ ((T.length : Int) ≤ (m : Int)) := by omega
            go_wp2_with fail
            go_at_call 11
            refine (owner_ids _ _ gc T x wr HI.out.1 lR).mono ?_
            rintro e' w' ⟨rfl, hw⟩
            subst w'
            rw [HM.out]
            go_wp2
            go_round
            case rel => exact ⟨i + 1, by omega, by go_num⟩
            case measure => simp [intOf]; omega
          · go_wp2_with (go_at_call 6; refine (awake_any _).mono ?_; rintro e' w' ⟨rfl, rfl⟩)
            go_ret
            exact ⟨rfl, HE.out.alloc HE.out.size _⟩

/-! ### THE ROW's STEP: WRITTEN OUT: LEAVE IT -/
set_option maxRecDepth 100000 in
theorem lifted (os : Os) (started : os.Started) (H : Type) (enc : TypeId × Value → H) :
    ReturnsInHanded {} Try.checked os 5 .any (Rows.ringTwiceSpec.pre6 enc Try.prog Try.f5 Rows.ringTwiceRow.domain false) (Rows.ringTwiceSpec.post enc Try.prog Try.f5 false true false false) := by
  refine returnsInHanded_of_change (C := Try.checked) own started (by kernel_rfl) Try.func5
    (ChangeSpec.witness6 (enc := enc) (C := Try.checked) false ⟨#[], #[.slice none 0 0], []⟩ 8 (by kernel_rfl) (by kernel_rfl) (by kernel_rfl) (by kernel_rfl)) ?_
  intro W base args ds gs before hval0 hW hcnd _
  have hval : ∀ (j : Nat) t v, Try.f5.params[j]? = some t → args[j]? = some v → Value.okWide Try.prog W .any base t v := hval0
  have hW' := hW
  obtain ⟨p, q, hA0, hV, rfl, hfz, hnd⟩ := hW
  have hA : DataW.TrodAll enc Try.prog W 0 (fun _ => true) true Try.f5.params.toList args.toList ds p := hA0
  rw [Try.params5] at hA hval
  obtain ⟨v0, vs0, d0, ds0, p0, q0, hargs, rfl, rfl, h0, r0⟩ := trodAll_cons hA
  obtain ⟨rfl, rfl, rfl⟩ := trodAll_nil r0
  obtain rfl : args = #[v0] := by cases args; simp_all
  obtain ⟨rfl, rfl⟩ := trodVars_none hV
  obtain ⟨a0, len0, cap0, rfl⟩ := okWide_slice Try.underlying28 (hval 0 28 v0 rfl rfl)
  have k0 := h0
  have lt0 : ∀ x ∈ p0, x.block < W.heap.size := by obtain ⟨m, hm⟩ := k0; exact DataW.trod_lt m _ _ _ hm
  obtain ⟨z0, w0⟩ : ∃ zs, IsRow .u64 W a0 len0 cap0 zs := by
    obtain ⟨fuel, hf⟩ := h0
    rcases open_ints Try.underlying28 Try.underlying23 (by kernel_rfl) hf with ⟨hcs, _⟩ | ⟨x, l, c, zs, hcs, _, hl, hm, hz, _, hcell, hwz⟩
    · simp [Value.cells] at hcs
      obtain ⟨rfl, rfl, rfl⟩ := hcs
      exact ⟨[], .inl ⟨rfl, rfl, rfl, rfl⟩⟩
    · simp [Value.cells] at hcs
      obtain ⟨rfl, rfl, rfl⟩ := hcs
      exact ⟨zs, .inr ⟨_, rfl, hl, hm, by simpa using hz, hcell, hwz⟩⟩
  clear hA0 hval0
  refine (walk a0 len0 cap0 z0 W w0).mono fun e W' ⟨he, bel⟩ => ?_
  subst he
  exact ⟨_, rfl, _, _, _, [], _, [], hW', trodAll_mk1 (shut_bool Try.underlying4 _), (trodAll_cons_mk (Below.trod laidOut (by kernel_rfl) (of_decide_eq_true (by kernel_rfl)) k0 bel lt0) trodAll_mk0), rfl, bel.frame _, fun h => by cases h⟩

theorem over : Rows.ringTwiceRow.holds Try.pinned (OpenSpec.ofChange Rows.ringTwiceSpec) :=
  OpenClaim.holds_of_wide 5 Try.f5 rfl rfl rfl rfl rfl rfl rfl ⟨rfl, rfl, rfl, rfl, rfl⟩ rfl rfl rfl rfl rfl (by kernel_rfl) Try.func5 (by kernel_rfl)
    (of_decide_eq_true (by kernel_rfl)) (by unfold Func.isWrapper; first | (rw [if_pos (by decide +kernel)]; kernel_rfl) | (rw [if_neg (by decide +kernel)]; exact ⟨rfl, rfl⟩))
    (fun os started H enc _ => lifted os started H enc)

end Go.Proofs.Ytkmlebikcllkpab.ringTwice

namespace Go.Proofs.Ytkmlebikcllkpab
/-- Proved: for every list of places, RingTwice answers true (of the first 40: sorting what is sorted changes nothing, it rises, and each place that was there is there). -/
theorem ringTwice_holds : Rows.RingTwiceSaid := ringTwice.over
#print axioms ringTwice_holds
end Go.Proofs.Ytkmlebikcllkpab
