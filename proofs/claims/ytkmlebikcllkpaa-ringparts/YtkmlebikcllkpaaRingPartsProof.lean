/- Proved: for every list of places and every place, RingParts answers true (of the first 40, sorted, each place of the circle has one owner: it lies behind the one ahead of that).
  The frame is the guide's own shell (proof-skeleton.mjs) at this function; the walk and all ahead of it are mine. -/
import Derived.Test.YtkmlebikcllkpaaRows
import Derived.Test.YtkmlebikcllkpaaRingMath
import Derived.Test.YtkmlebikcllkpaaRing
import Derived.Test.YtkmlebikcllkpaaAwake
import Derived.Test.YtkmlebikcllkpaaPartMath
import Derived.Test.YtkmlebikcllkpaaLawIds
import Derived.Test.YtkmlebikcllkpaaQuietFam
import Derived.WalkKit
import Derived.WalkLawsBesides
import Derived.ProofKit
import Derived.OpenShut
import Derived.ShutString
import Derived.ChangeOld
import Derived.Below
namespace Go.Proofs.Ytkmlebikcllkpaa.ringParts
open Go.ChangeShapes Go.WideShapes Go.ChangeAt Go.RowKit
open Go.ChangeMaps (open_string shut_string)
set_option linter.unusedVariables false

theorem own : ownKnob Try.prog.godebug = none := by kernel_rfl
theorem laidOut : laidOutB Try.prog = true := by kernel_rfl

/-- WHAT THE WALK IS TOLD OF A SLICE OF INTEGERS THAT CAME IN: it is nil; or it leads to a row of 'cap' cells, the numbers 'zs' (the first 'len' are its elements, the rest its spare room), each fitting its kind. -/
def IsRow (k : IntKind) (w : World) (a : Option Addr) (len cap : Nat) (zs : List Int) : Prop :=
  (a = none ∧ len = 0 ∧ cap = 0 ∧ zs = []) ∨
  ∃ x, a = some x ∧ len ≤ cap ∧ cap ≤ maxLen ∧ zs.length = cap ∧ (∀ i, i < zs.length → w.cell? (x.add i) = some (.int k (zs.getD i 0))) ∧ ∀ n ∈ zs, (Lit.int k n).wf = true


theorem prev_mod (k m : Nat) (h : k < m) : ((k : Int) + (m : Int) - 1).tmod (m : Int) = (((k + m - 1) % m : Nat) : Int) := by
  rw [show (k : Int) + (m : Int) - 1 = ((k + m - 1 : Nat) : Int) by omega, Int.ofNat_tmod]
/-! ### STEP 1: THE WALK: the Go text returns true, AND WRITES NOTHING THAT WAS THERE: 'Below w.heap.size w w'' (Derived/Below.lean: '.refl', '.alloc', '.drew', '.setCell' at a new block, '.trans'). Open each 'IsRow' by 'rcases' AHEAD of 'go_enter'; part every test ahead of the walk. -/
set_option maxRecDepth 100000 in
set_option maxHeartbeats 2000000 in
theorem walk (a0 : Option Addr) (len0 cap0 : Nat) (z0 : List Int) (a1 : Int) (w : World) (w0 : IsRow .u64 w a0 len0 cap0 z0) (w1 : (Lit.int .u64 a1).wf = true) :
    Calls Try.prog 7 #[.slice a0 len0 cap0, .int .u64 a1] w fun e w' => e = .returned (.bool true) ∧ Below w.heap.size w w' := by
  have hb1 := bounds_u64 w1
  have HX : Hid (0 ≤ a1 ∧ a1 ≤ 18446744073709551615) := hb1
  clear hb1
  by_cases h40 : 40 < len0
  case' pos =>
    obtain ⟨hI, hU, hlc, hcm⟩ := ids_of w0 40 (by omega)
    obtain ⟨l, hl⟩ : ∃ l, l = z0.take 40 := ⟨_, rfl⟩
    rw [← hl] at hI hU
    have HW : Hid (IsRow .u64 w a0 len0 cap0 z0) := w0
    clear hl w0
    go_enter Try.func7, Try.ntmps7
    go_wp2_with fail
  case' neg =>
    obtain ⟨hI, hU, hlc, hcm⟩ := ids_of w0 len0 (by omega)
    obtain ⟨l, hl⟩ : ∃ l, l = z0.take len0 := ⟨_, rfl⟩
    rw [← hl] at hI hU
    have HW : Hid (IsRow .u64 w a0 len0 cap0 z0) := w0
    clear hl w0
    go_enter Try.func7, Try.ntmps7
    go_wp2_with fail
  all_goals
    have hll : l.length ≤ 40 := by have := hI.1; omega
    refine (sorted_any a0 _ cap0 l w hI (by omega)).mono ?_
    rintro e1 w1' ⟨v, R, rfl, b1, o1, rR, mR, lR⟩
    obtain ⟨ga, gc, rfl, hgc, iR⟩ := o1.ids
    have H1 : Hid (Below w.heap.size w w1' ∧ IdsAt w1' ga R.length R ∧ R.Pairwise (· < ·) ∧ InU R) := ⟨b1, iR, rR, fun y hy => hU y ((mR y).1 hy)⟩
    clear b1 o1 rR mR iR hI hU
    go_wp2_with fail
    go_at_call 24
    refine (owner_ids ga _ gc R a1 w1' H1.out.2.1 lR).mono ?_
    rintro e' w' ⟨rfl, hw⟩
    subst w'
    have b2 : Below w.heap.size w (w1'.alloc (.cells #[.int .u64 3, .int .u64 9] 23)) := H1.out.1.alloc H1.out.1.size _
    have HE : Hid (Below w.heap.size w (w1'.alloc (.cells #[.int .u64 3, .int .u64 9] 23))) := b2
    clear b2
    by_cases h0 : R.length = 0
    · have hR : R = [] := List.eq_nil_of_length_eq_zero h0
      subst hR
      have ho : ownerN [] a1 = -1 := rfl
      go_wp2_with (go_at_call 9; refine (awake_any _).mono ?_; rintro e' w' ⟨rfl, rfl⟩)
      go_ret
      exact ⟨by simp, HE.out⟩
    · have hz : ((R.length : Int) == 0) = false := beq_eq_false_iff_ne.2 (by omega)
      obtain ⟨o, ho, hol⟩ := owner_rng R a1 (by omega)
      rw [ho]
      have HO : Hid (ownerN R a1 = o) := ho
      clear ho
      have ho1 : ¬ ((o : Int) < 0) := by omega
      have ho2 : ¬ ((R.length : Int) ≤ (o : Int)) := by omega
      go_wp2
      go_loopw [7, 37] (fun p q wr => ∃ (j : Nat) (c : Int), j ≤ R.length ∧ q = .int .i64 j ∧ p = .int .i64 c ∧ (c = if o < j then 1 else 0) ∧ Below w1'.heap.size w1' wr) (fun _ q _ => R.length - (intOf q).toNat)
      case atStart => exact ⟨0, 0, Nat.zero_le _, rfl, rfl, by simp, Below.refl _ _⟩
      case round =>
        obtain ⟨j, c, hj, rfl, rfl, hcc, hW⟩ := hrel
        have hc01 : 0 ≤ c ∧ c ≤ 1 := by rw [hcc]; split <;> omega
        have HC : Hid (c = if o < j then 1 else 0) := hcc
        clear hcc
        obtain ⟨hc0, hc1⟩ := hc01
        have HI : Hid (IdsAt wr ga R.length R ∧ Below w1'.heap.size w1' wr) := ⟨H1.out.2.1.carry hW, hW⟩
        clear hW
        obtain ⟨b, oo, ha, hc⟩ : ∃ b o, ga = some ⟨b, o, none⟩ ∧ ∀ j, j < R.length → wr.cell? ⟨b, o + j, none⟩ = some (.int .u64 (R.getD j 0)) := by
          rcases HI.out.1.2 with h0 | ⟨b, o, ha, hc⟩
          · omega
          · exact ⟨b, o, ha, hc⟩
        subst ha
        by_cases hlt : j < R.length
        · have hmod := prev_mod j R.length hlt
          have hpl : (j + R.length - 1) % R.length < R.length := Nat.mod_lt _ (by omega)
          have hpart := part_one R a1 j H1.out.2.2.1 H1.out.2.2.2 HX.out hlt
          obtain ⟨p, hpd⟩ : ∃ p, p = (j + R.length - 1) % R.length := ⟨_, rfl⟩
          rw [← hpd] at hmod hpl hpart
          clear hpd
          have hcj := hc j hlt
          have hcp := hc p hpl
          clear hc
          obtain ⟨y, hy⟩ : ∃ y, y = R.getD j 0 := ⟨_, rfl⟩
          obtain ⟨z, hz'⟩ : ∃ z, z = R.getD p 0 := ⟨_, rfl⟩
          rw [← hy] at hcj hpart
          rw [← hz'] at hcp hpart
          clear hy hz'
          rw [HO.out] at hpart
          have HP : Hid (inB a1 z y = decide ((o : Int) = j)) := hpart
          clear hpart
          go_wp2_with fail
          go_quiet (first | (go_at_call 12; refine Calls.quiet_of_same (in_any _ _ _ _)))
          go_wp2
          · have hin : inB a1 z y = true := by assumption
            have hjo : o = j := by have := HP.out; rw [hin] at this; simp at this; omega
            have HC0 : Hid (c = 0) := by show _ = _; rw [HC.out, if_neg (by omega)]
            go_roundw
            case rel => exact ⟨j + 1, c + 1, by omega, by go_num, by go_num, by rw [if_pos (by omega), HC0.out]; rfl, HI.out.2.trans (below_drewN _ _ _)⟩
            case measure => simp [intOf]; omega
          · have hin : inB a1 z y = false := by assumption
            have hjo : o ≠ j := by have := HP.out; rw [hin] at this; simp at this; omega
            go_roundw
            case rel => exact ⟨j + 1, c, by omega, by go_num, rfl, by rw [HC.out]; split <;> split <;> omega, HI.out.2.trans (below_drewN _ _ _)⟩
            case measure => simp [intOf]; omega
        · obtain rfl : c = 1 := by rw [HC.out, if_pos (by omega)]
          have hmod := prev_mod o R.length hol
          have hpl : (o + R.length - 1) % R.length < R.length := Nat.mod_lt _ (by omega)
          have hpart := part_one R a1 o H1.out.2.2.1 H1.out.2.2.2 HX.out hol
          obtain ⟨p, hpd⟩ : ∃ p, p = (o + R.length - 1) % R.length := ⟨_, rfl⟩
          rw [← hpd] at hmod hpl hpart
          clear hpd
          have hcj := hc o hol
          have hcp := hc p hpl
          clear hc
          obtain ⟨y, hy⟩ : ∃ y, y = R.getD o 0 := ⟨_, rfl⟩
          obtain ⟨z, hz'⟩ : ∃ z, z = R.getD p 0 := ⟨_, rfl⟩
          rw [← hy] at hcj hpart
          rw [← hz'] at hcp hpart
          clear hy hz'
          rw [HO.out] at hpart
          have hin : inB a1 z y = true := by rw [hpart]; simp
          clear hpart
          obtain ⟨ι, F, hne, hF0, hFb, hFc⟩ := grown_fam wr
          have hcj2 : ∀ i, (F i).cell? ⟨b, oo + o, none⟩ = some (.int .u64 y) := fun i => cell_grown hcj (hFb i)
          have hcp2 : ∀ i, (F i).cell? ⟨b, oo + p, none⟩ = some (.int .u64 z) := fun i => cell_grown hcp (hFb i)
          have HF : Hid ((∃ i, { wr with drawn := wr.drawn + 1 } = F i) ∧ (∀ i, Below wr.heap.size wr (F i)) ∧ (∀ i W, Below wr.heap.size (F i) W → ∃ j, W = F j)) := ⟨hF0, hFb, hFc⟩
          clear hF0 hFb hFc hcj hcp
          go_wp2_with fail
          refine wp_region_fam F HF.out.1 (by kernel_rfl) (by kernel_rfl) ?_
          repeat (go_big_quiet_step (first
            | (go_at_call 9; refine (awake_any _).mono ?_; rintro e' w' ⟨rfl, rfl⟩; exact ⟨rfl, HF.out.2.2 _ _ ((Below.refl _ _).alloc (HF.out.2.1 _).size _)⟩)
            | (go_at_call 12; refine (in_any _ _ _ _).mono ?_; rintro e' w' ⟨rfl, rfl⟩; exact ⟨rfl, _, rfl⟩)))
          refine wpQuiet_nil ?_
          rintro _ ⟨i, rfl⟩
          go_wp2
          go_ret
          exact ⟨by simp [hin], (H1.out.1.trans (HI.out.2.mono H1.out.1.size)).trans ((HF.out.2.1 i).mono (Nat.le_trans H1.out.1.size HI.out.2.size))⟩

/-! ### THE ROW's STEP: WRITTEN OUT: LEAVE IT -/
set_option maxRecDepth 100000 in
theorem lifted (os : Os) (started : os.Started) (H : Type) (enc : TypeId × Value → H) :
    ReturnsInHanded {} Try.checked os 7 .any (Rows.ringPartsSpec.pre6 enc Try.prog Try.f7 Rows.ringPartsRow.domain false) (Rows.ringPartsSpec.post enc Try.prog Try.f7 false true false false) := by
  refine returnsInHanded_of_change (C := Try.checked) own started (by kernel_rfl) Try.func7
    (ChangeSpec.witness6 (enc := enc) (C := Try.checked) false ⟨#[], #[.slice none 0 0, .int .u64 0], []⟩ 8 (by kernel_rfl) (by kernel_rfl) (by kernel_rfl) (by kernel_rfl)) ?_
  intro W base args ds gs before hval0 hW hcnd _
  have hval : ∀ (j : Nat) t v, Try.f7.params[j]? = some t → args[j]? = some v → Value.okWide Try.prog W .any base t v := hval0
  have hW' := hW
  obtain ⟨p, q, hA0, hV, rfl, hfz, hnd⟩ := hW
  have hA : DataW.TrodAll enc Try.prog W 0 (fun _ => true) true Try.f7.params.toList args.toList ds p := hA0
  rw [Try.params7] at hA hval
  obtain ⟨v0, vs0, d0, ds0, p0, q0, hargs, rfl, rfl, h0, r0⟩ := trodAll_cons hA
  obtain ⟨v1, vs1, d1, ds1, p1, q1, rfl, rfl, rfl, h1, r1⟩ := trodAll_cons r0
  obtain ⟨rfl, rfl, rfl⟩ := trodAll_nil r1
  obtain rfl : args = #[v0, v1] := by cases args; simp_all
  obtain ⟨rfl, rfl⟩ := trodVars_none hV
  obtain ⟨a0, len0, cap0, rfl⟩ := okWide_slice Try.underlying36 (hval 0 36 v0 rfl rfl)
  have k0 := h0
  have lt0 : ∀ x ∈ p0, x.block < W.heap.size := by obtain ⟨m, hm⟩ := k0; exact DataW.trod_lt m _ _ _ hm
  obtain ⟨z0, w0⟩ : ∃ zs, IsRow .u64 W a0 len0 cap0 zs := by
    obtain ⟨fuel, hf⟩ := h0
    rcases open_ints Try.underlying36 Try.underlying23 (by kernel_rfl) hf with ⟨hcs, _⟩ | ⟨x, l, c, zs, hcs, _, hl, hm, hz, _, hcell, hwz⟩
    · simp [Value.cells] at hcs
      obtain ⟨rfl, rfl, rfl⟩ := hcs
      exact ⟨[], .inl ⟨rfl, rfl, rfl, rfl⟩⟩
    · simp [Value.cells] at hcs
      obtain ⟨rfl, rfl, rfl⟩ := hcs
      exact ⟨zs, .inr ⟨_, rfl, hl, hm, by simpa using hz, hcell, hwz⟩⟩
  obtain ⟨a1, rfl, rfl, rfl, w1⟩ := open_int Try.underlying23 (hval 1 23 v1 rfl rfl) h1
  clear hA0 hval0
  refine (walk a0 len0 cap0 z0 a1 W w0 w1).mono fun e W' ⟨he, bel⟩ => ?_
  subst he
  exact ⟨_, rfl, _, _, _, [], _, [], hW', trodAll_mk1 (shut_bool Try.underlying4 _), (trodAll_cons_mk (Below.trod laidOut (by kernel_rfl) (of_decide_eq_true (by kernel_rfl)) k0 bel lt0) (trodAll_cons_mk (shut_int Try.underlying23 w1) trodAll_mk0)), rfl, bel.frame _, fun h => by cases h⟩

theorem over : Rows.ringPartsRow.holds Try.pinned (OpenSpec.ofChange Rows.ringPartsSpec) :=
  OpenClaim.holds_of_wide 7 Try.f7 rfl rfl rfl rfl rfl rfl rfl ⟨rfl, rfl, rfl, rfl, rfl⟩ rfl rfl rfl rfl rfl (by kernel_rfl) Try.func7 (by kernel_rfl)
    (of_decide_eq_true (by kernel_rfl)) (by unfold Func.isWrapper; first | (rw [if_pos (by decide +kernel)]; kernel_rfl) | (rw [if_neg (by decide +kernel)]; exact ⟨rfl, rfl⟩))
    (fun os started H enc _ => lifted os started H enc)

end Go.Proofs.Ytkmlebikcllkpaa.ringParts

namespace Go.Proofs.Ytkmlebikcllkpaa
/-- Proved: for every list of places and every place, RingParts answers true (of the first 40, sorted, each place of the circle has one owner: it lies behind the one ahead of that). -/
theorem ringParts_holds : Rows.RingPartsSaid := ringParts.over
#print axioms ringParts_holds
end Go.Proofs.Ytkmlebikcllkpaa
