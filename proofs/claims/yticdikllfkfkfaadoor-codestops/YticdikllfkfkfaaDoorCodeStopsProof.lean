/- Proved: for every text and every list of things, CodeStops answers true (behind its first error a reader reads nothing more, and its error stays), errors.errorType being laid as the program's text lays it (the card's tie, over the pruned copy).
  The frame is the guide's own shell (proof-skeleton.mjs) at this function; the walk and all ahead of it are mine. -/
import Derived.Test.YticdikllfkfkfaaDoorRows
import Derived.Test.YticdikllfkfkfaaDoorAid
import Derived.Test.YticdikllfkfkfaaDoorCodeMath
import Derived.Test.YticdikllfkfkfaaDoorOwnSrc
import Derived.Test.YticdikllfkfkfaaDoorCodeW
import Derived.Test.YticdikllfkfkfaaDoorCodeR
import Derived.Test.YticdikllfkfkfaaDoorCodeR2
import Derived.Test.YticdikllfkfkfaaDoorCodeIs
import Derived.Test.YticdikllfkfkfaaDoorCodeAwake
import Derived.Test.YticdikllfkfkfaaDoorCodeKeep
import Derived.Test.YticdikllfkfkfaaDoorCut
import Derived.Test.YticdikllfkfkfaaDoorCodeOf
import Derived.Test.YticdikllfkfkfaaDoorCodeOf2
import Derived.Test.YticdikllfkfkfaaDoorCodeOf3
import Derived.Test.YticdikllfkfkfaaDoorCodeRT
import Derived.Test.YticdikllfkfkfaaDoorThings
import Derived.Test.YticdikllfkfkfaaDoorCodePut
import Derived.Test.YticdikllfkfkfaaDoorThingsFrame
import Derived.Test.YticdikllfkfkfaaDoorThingsUse
import Derived.Test.YticdikllfkfkfaaDoorCodeRI
import Derived.Test.YticdikllfkfkfaaDoorCodeCutAid
import Derived.Test.YticdikllfkfkfaaDoorCodeBelow
import Derived.WalkKit
import Derived.WalkLawsBesides
import Derived.ProofKit
import Derived.OpenShut
import Derived.ChangeSame
import Derived.ChangeVars
import Derived.JoinedOf
import Derived.RowKit
import Derived.RowKitTokens
import Derived.LaidLaws
import Derived.LaidHandle
import Derived.Stop.Joined
import Derived.SevenTiedAt
import Derived.Test.YticdikllfkfkfaaDoorTie
import Derived.Test.YticdikllfkfkfaaDoorCards
import Derived.ShutString
import Derived.ChangeOld
import Derived.Below
namespace Go.Proofs.YticdikllfkfkfaaDoor.codeStops
open Go.ChangeShapes Go.WideShapes Go.ChangeAt Go.RowKit
open Go.ChangeMaps (open_string shut_string)
set_option linter.unusedVariables false

theorem own : ownKnob Tryd.prog.godebug = none := by kernel_rfl
theorem laidOut : laidOutB Tryd.prog = true := by kernel_rfl


theorem rd_some (L : List UInt8) (n k : Nat) (h : rdNum 0 0 L = (n, k, 0)) : 0 < k := by
  obtain ⟨m, _, _, h3, _⟩ := rd_one 0 0 L (by omega) (by rw [h])
  rw [h] at h3
  have e := congrArg List.length h3
  have p := numB_pos m
  rw [List.length_take] at e
  simp at e
  omega
theorem et : Tryd.prog.globalNamed "errors.errorType" = some 0 := by kernel_rfl
theorem rt : (Tryd.prog.cutTypes.find? (·.1 == "internal/reflectlite.rtype")).map (·.2) = some 87 := by kernel_rfl
theorem oneRow : ((List.range 129).filter fun t => Tryd.prog.rowNamed t [101, 114, 114, 111, 114]) = [48] := by kernel_rfl
theorem typesSize : Tryd.prog.types.size = 129 := by kernel_rfl
/-- What the tied variable gives a walk: its one cell. -/
theorem handle_of_laid {W : World} (h : laidMetH Tryd.prog Rows.codeStopsRow.laid W) : ErrType W := by
  have h' : laidMet Tryd.prog [] W ∧ handlesMet Tryd.prog Rows.codeStopsRow.laid W := h
  obtain ⟨name, u, ty, e1, e2, e3, e4, e5⟩ := h'.2 _ (List.mem_singleton.2 rfl)
  have en : name = [101, 114, 114, 111, 114] := (Option.some.inj e1).symm
  subst en
  obtain rfl := Option.some.inj (rt.symm.trans e2)
  have hm : ty ∈ (List.range 129).filter fun t => Tryd.prog.rowNamed t [101, 114, 114, 111, 114] := List.mem_filter.2 ⟨List.mem_range.2 (by rw [← typesSize]; exact e3), e4⟩
  rw [oneRow] at hm
  obtain rfl := List.mem_singleton.1 hm
  have hh : typeHandle Tryd.prog 48 = .pointer (some ⟨1, 48, none⟩) := by kernel_rfl
  rw [hh] at e5
  unfold ErrType
  simpa using World.var?_cell et e5 0

/-! ### STEP 1: the walk -/
set_option maxRecDepth 100000 in
set_option maxHeartbeats 2000000 in
theorem walk (a0 : ByteArray) (a1 : Option Addr) (len1 cap1 : Nat) (t1 : List Th) (w : World) (hE : ErrType w) (w0 : a0.size ≤ maxLen) (w1 : IsThings w a1 len1 cap1 t1) :
    Calls Tryd.prog 5 #[.string a0, .slice a1 len1 cap1] w fun e w' => e = .returned (.bool true) ∧ Below w.heap.size w w' := by
  have hc := cut_size a0 300
  obtain ⟨s, hs⟩ : ∃ s, s = cut a0 300 := ⟨_, rfl⟩
  have HC : Hid (s = cut a0 300) := hs
  rw [← hs] at hc
  clear hs
  have hlen := fewOf_len t1 20
  obtain ⟨us, hus⟩ : ∃ us, us = fewOf t1 20 := ⟨_, rfl⟩
  rw [← hus] at hlen
  have HU : Hid (us = fewOf t1 20) := hus
  clear hus
  have hlt0 := hE.lt
  have HE : Hid (ErrType w ∧ IsThings w a1 len1 cap1 t1) := ⟨hE, w1⟩
  clear hE w1
  go_enter Tryd.func5, Tryd.ntmps5
  go_wp2_with fail
  refine (cut_any a0 300 _ w0).mono ?_
  rw [← HC.out]
  rintro e w' ⟨rfl, hw'⟩
  subst w'
  go_wp2_with fail
  refine (open_any _ _).mono ?_
  rintro e w2 ⟨rfl, hw2⟩
  have hR2 : Rd w2 w.heap.size s 0 0 := by rw [hw2]; exact rd_new _ _
  have b2 : Below w.heap.size w w2 := by rw [hw2]; exact (Below.refl _ _).alloc (Nat.le_refl _) _
  clear hw2
  go_wp2
  go_loopw [6] (fun y wr => ∃ i at' c : Nat, y = .int .i64 i ∧ i ≤ 301 ∧ Rd wr w.heap.size s at' c ∧ at' ≤ s.size ∧ (c = 0 → i ≤ at') ∧ Below w.heap.size w wr) (fun y _ => 301 - (intOf y).toNat)
  case atStart => exact ⟨0, 0, 0, rfl, by omega, hR2, Nat.zero_le _, fun _ => Nat.le_refl _, b2⟩
  case round =>
    obtain ⟨i, at', c, rfl, hi, hR, hat, hia, hb⟩ := hrel
    have hsz := hR.lt
    by_cases h0 : c = 0
    · subst h0
      have hia := hia rfl
      obtain ⟨n, k, cd, hr⟩ : ∃ n k cd, rdNum 0 0 (s.data.toList.drop at') = (n, k, cd) := ⟨_, _, _, rfl⟩
      have hk : at' + k ≤ s.size := by
        have q := rd_taken 0 0 (s.data.toList.drop at')
        rw [hr] at q
        simp at q
        omega
      have hk1 : Hid (cd = 0 → i + 1 ≤ at' + k) := by
        intro h
        rw [h] at hr
        have := rd_some _ n k hr
        omega
      have HR : Hid (rdNum 0 0 (s.data.toList.drop at') = (n, k, cd)) := hr
      clear hr
      go_wp2_with (first
        | (go_at_call 22; refine (err_nil w.heap.size s at' wr hR).mono ?_; rintro e w' ⟨rfl, hw⟩; subst w'))
      refine (rnumber_any w.heap.size s at' n k cd wr hR hat (by omega) HR.out).mono ?_
      rintro e w3 ⟨rfl, hR3, hS3⟩
      have b3 := hS3.adds.below (B := w.heap.size) (Nat.le_refl _) (by omega) hb
      clear hS3 hR hb
      go_wp2
      go_roundw
      case rel => exact ⟨i + 1, at' + k, cd, by go_num, by omega, hR3, hk, hk1.out, b3⟩
      case measure => simp [intOf]; omega
    · have hc0 : ((c : Int) == 0) = false := beq_eq_false_iff_ne.2 (by omega)
      clear hia
      go_wp2_with fail
      refine (err_fault w.heap.size s at' c wr hR h0).mono ?_
      rintro e w3 ⟨g3, rfl, hF3, hg3, hR3, hA3⟩
      have b3 := hA3.below (B := w.heap.size) (Nat.le_refl _) (by omega) hb
      have s3 := hR3.lt
      clear hF3 hA3 hR hb
      go_wp2_with fail
      refine (err_fault w.heap.size s at' c w3 hR3 h0).mono ?_
      rintro e w4 ⟨g4, rfl, hF4, hg4, hR4, hA4⟩
      have b4 := hA4.below (B := w.heap.size) (Nat.le_refl _) (by omega) b3
      have s4 := hR4.lt
      clear hA4 hR3 b3
      go_wp2_with fail
      refine (of_fault g4 c _ (HE.out.1.below hlt0 b4) hF4).mono ?_
      rintro e w5 ⟨rfl, hb5⟩
      have hR5 := hR4.below hb5
      have b5 := b4.trans (hb5.mono (by omega))
      have s5 := hR5.lt
      clear hb5 hR4 b4 hF4
      go_wp2_with (go_at_call 20; refine (at_any w.heap.size s at' c w5 hR5).mono ?_; rintro e w' ⟨rfl, hw⟩; subst w')
      refine (few_of a1 len1 cap1 20 t1 w5 (HE.out.2.below b5) (by omega)).mono ?_
      rw [← HU.out]
      rintro e w6 ⟨v, rfl, hown, hb6⟩
      have hR6 := hR5.below hb6
      have b6 := b5.trans (hb6.mono (by omega))
      have s6 := hR6.lt
      have hrow := row_of hown
      clear hown hb6 hR5 b5
      rcases hrow with ⟨a, ca, hv, hu0⟩ | ⟨g, ca, hv, hg, hpos, hrow⟩
      · rw [hv]
        subst hu0
        clear hv
        go_wp2
        refine wp_loop_rounds 1 ?_
        rw [rounds_succ]
        go_wp2_with fail
        refine (cawake_any w6).mono ?_
        rintro e w7 ⟨rfl, hb7⟩
        have hR7 := hR6.below hb7
        have b7 := b6.trans (hb7.mono (by omega))
        have s7 := hR7.lt
        clear hb7 hR6 b6
        go_wp2_with fail
        refine (done_stuck w.heap.size s at' c w7 hR7 h0).mono ?_
        rintro e w8 ⟨g8, rfl, hF8, hg8, hR8, hA8⟩
        have b8 := hA8.below (B := w.heap.size) (Nat.le_refl _) (by omega) b7
        have s8 := hR8.lt
        clear hA8 hR7 b7
        go_wp2_with fail
        refine (of_fault g8 c _ (HE.out.1.below hlt0 b8) hF8).mono ?_
        rintro e w9 ⟨rfl, hb9⟩
        have b9 := b8.trans (hb9.mono (by omega))
        clear hb9 hF8
        go_wp2
        go_ret
        exact ⟨by simp, b9⟩
      · rw [hv]
        clear hv
        have hgq : g ≠ w.heap.size := by omega
        go_wp2
        go_loopw [35] (fun y wr => ∃ j : Nat, j ≤ us.length ∧ y = .int .i64 j ∧ Rd wr w.heap.size s at' c ∧ ThRow wr g us ∧ Below w.heap.size w wr) (fun y _ => us.length - (intOf y).toNat)
        case atStart => exact ⟨0, Nat.zero_le _, rfl, hR6, hrow, b6⟩
        case round =>
          obtain ⟨j, hj, rfl, hR, hT, hb⟩ := hrel
          have hsz := hR.lt
          by_cases hjl : j < us.length
          · obtain ⟨t, ht⟩ : ∃ t, t = us.getD j th0 := ⟨_, rfl⟩
            have g0 := hT.c0 j hjl
            have g1 := hT.c1 j hjl
            have g2 := hT.c2 j hjl
            have g3 := hT.c3 j hjl
            rw [← ht] at g0 g1 g2 g3
            clear ht
            have hR' := hR.alloc (.cells #[.int .i64 t.kind, .int .i64 t.n, .int .u64 t.u, .string t.s] 33)
            have hT' := hT.alloc (.cells #[.int .i64 t.kind, .int .i64 t.n, .int .u64 t.u, .string t.s] 33)
            have hb' := hb.alloc (by omega) (.cells #[.int .i64 t.kind, .int .i64 t.n, .int .u64 t.u, .string t.s] 33)
            obtain ⟨q0, q1, q2, q3⟩ := th_block (heap_alloc_new wr (.cells #[.int .i64 t.kind, .int .i64 t.n, .int .u64 t.u, .string t.s] 33))
            have HB : Hid (Rd (wr.alloc (.cells #[.int .i64 t.kind, .int .i64 t.n, .int .u64 t.u, .string t.s] 33)) w.heap.size s at' c ∧ ThRow (wr.alloc (.cells #[.int .i64 t.kind, .int .i64 t.n, .int .u64 t.u, .string t.s] 33)) g us
              ∧ Below w.heap.size w (wr.alloc (.cells #[.int .i64 t.kind, .int .i64 t.n, .int .u64 t.u, .string t.s] 33))) := ⟨hR', hT', hb'⟩
            clear hR' hT' hb' hR hT hb
            have hcc : ((c : Int) != (c : Int)) = false := by simp
            go_wp2_with (first
              | (go_at_call 13; refine (rnumber_stuck w.heap.size s at' c _ HB.out.1 h0).mono ?_; rintro e w' ⟨rfl, hw⟩; subst w')
              | (go_at_call 15; refine (rint_stuck w.heap.size s at' c _ HB.out.1 h0).mono ?_; rintro e w' ⟨rfl, hw⟩; subst w')
              | (go_at_call 17; refine (rtext_stuck w.heap.size s at' c _ _ HB.out.1 h0).mono ?_; rintro e w' ⟨rfl, hw⟩; subst w')
              | (go_at_call 19; refine (rbelow_stuck w.heap.size s at' c _ _ HB.out.1 h0).mono ?_; rintro e w' ⟨rfl, hw⟩; subst w')
              | (go_at_call 20; refine (at_any w.heap.size s at' c _ HB.out.1).mono ?_; rintro e w' ⟨rfl, hw⟩; subst w'))
            refine (err_fault w.heap.size s at' c _ HB.out.1 h0).mono ?_
            rintro e w7 ⟨g7, rfl, hF7, hg7, hR7, hA7⟩
            have b7 := hA7.below (B := w.heap.size) (Nat.le_refl _) (by simp; omega) HB.out.2.2
            have hT7 := HB.out.2.1.adds hA7 hgq
            have s7 := hR7.lt
            clear hA7 q0 q1 q2 q3 g0 g1 g2 g3
            go_wp2_with fail
            refine (of_fault g7 c _ (HE.out.1.below hlt0 b7) hF7).mono ?_
            rintro e w8 ⟨rfl, hb8⟩
            have hR8 := hR7.below hb8
            have hT8 := hT7.below hb8
            have b8 := b7.trans (hb8.mono (by omega))
            clear hb8 hF7 hR7 hT7 b7
            go_wp2
            go_roundw
            case rel => exact ⟨j + 1, hjl, by go_num, hR8, hT8, b8⟩
            case measure => simp [intOf]; omega
          · go_wp2_with fail
            refine (cawake_any wr).mono ?_
            rintro e w7 ⟨rfl, hb7⟩
            have hR7 := hR.below hb7
            have b7 := hb.trans (hb7.mono (by omega))
            have s7 := hR7.lt
            clear hb7 hR hb
            go_wp2_with fail
            refine (done_stuck w.heap.size s at' c w7 hR7 h0).mono ?_
            rintro e w8 ⟨g8, rfl, hF8, hg8, hR8, hA8⟩
            have b8 := hA8.below (B := w.heap.size) (Nat.le_refl _) (by omega) b7
            have s8 := hR8.lt
            clear hA8 hR7 b7
            go_wp2_with fail
            refine (of_fault g8 c _ (HE.out.1.below hlt0 b8) hF8).mono ?_
            rintro e w9 ⟨rfl, hb9⟩
            have b9 := b8.trans (hb9.mono (by omega))
            clear hb9 hF8
            go_wp2
            go_ret
            exact ⟨by simp, b9⟩

/-! ### The row's step -/
set_option maxRecDepth 100000 in
theorem lifted (os : Os) (started : os.Started) (H : Type) (enc : TypeId × Value → H) :
    ReturnsInHanded {} Tryd.checked os 5 .any (fun w args => (Rows.codeStopsSpec.pre enc Tryd.prog Tryd.f5 [] false w args ∧ laidMetH Tryd.prog Rows.codeStopsRow.laid w) ∧ sizedMet enc Tryd.prog Tryd.f5 (OpenSpec.ofChange Rows.codeStopsSpec) false w args) (Rows.codeStopsSpec.post enc Tryd.prog Tryd.f5 false true false false) := by
  refine returnsInHanded_of_change_and (C := Tryd.checked) (X := fun w _ => laidMetH Tryd.prog Rows.codeStopsRow.laid w) (fun _ _ _ hh h => h.of_heap hh) own started (by kernel_rfl) Tryd.func5
    (ChangeSpec.witness_at (enc := enc) (C := Tryd.checked) (os := os) (X := fun w _ => laidMetH Tryd.prog Rows.codeStopsRow.laid w) false ({ World.holding Tryd.prog os ⟨#[], #[], []⟩ with heap := (World.holding Tryd.prog os ⟨#[], #[], []⟩).heap.modify 0 fun | .cells _ t frozen => .cells #[.iface 87 (.agg #[.pointer (some ⟨1, 48, none⟩)])] t frozen | o => o }) #[.string ByteArray.empty, .slice none 0 0] 8 rfl (by kernel_rfl) (by kernel_rfl) (by kernel_rfl) (by kernel_rfl) (by kernel_rfl) (laidMetH_of_parts (laidMet_nil _ _) (by kernel_rfl))) ?_
  intro W base args ds gs before hval0 hW _ _ hL _
  have hval : ∀ (j : Nat) t v, Tryd.f5.params[j]? = some t → args[j]? = some v → Value.okWide Tryd.prog W .any base t v := hval0
  have hW' := hW
  obtain ⟨p, q, hA0, hV, rfl, hfz, hnd⟩ := hW
  have hA : DataW.TrodAll enc Tryd.prog W 0 (fun _ => true) true Tryd.f5.params.toList args.toList ds p := hA0
  rw [Tryd.params5] at hA hval
  obtain ⟨v0, vs0, d0, ds0, p0, q0, hargs, rfl, rfl, h0, r0⟩ := trodAll_cons hA
  obtain ⟨v1, vs1, d1, ds1, p1, q1, rfl, rfl, rfl, h1, r1⟩ := trodAll_cons r0
  obtain ⟨rfl, rfl, rfl⟩ := trodAll_nil r1
  obtain rfl : args = #[v0, v1] := by cases args; simp_all
  obtain ⟨rfl, rfl⟩ := trodVars_none hV
  obtain ⟨a0, rfl, rfl, rfl, w0⟩ := open_string Tryd.underlying9 (hval 0 9 v0 rfl rfl) h0
  obtain ⟨a1, len1, cap1, rfl⟩ := okWide_slice Tryd.underlying22 (hval 1 22 v1 rfl rfl)
  have k1 := h1
  have lt1 : ∀ x ∈ p1, x.block < W.heap.size := by obtain ⟨m, hm⟩ := k1; exact DataW.trod_lt m _ _ _ hm
  obtain ⟨t1, w1⟩ : ∃ ts, IsThings W a1 len1 cap1 ts := by
    obtain ⟨fuel, hf⟩ := h1
    exact things_of hf
  clear hA0 hval0
  have hE := handle_of_laid hL
  refine (walk a0 a1 len1 cap1 t1 W hE w0 w1).mono fun e W' ⟨he, bel⟩ => ?_
  subst he
  exact ⟨_, rfl, _, _, _, [], _, [], hW', trodAll_mk1 (shut_bool Tryd.underlying4 _), (trodAll_cons_mk (shut_string Tryd.underlying9 w0) (trodAll_cons_mk (Below.trod laidOut (by kernel_rfl) (of_decide_eq_true (by kernel_rfl)) k1 bel lt1) trodAll_mk0)), rfl, bel.frame _, fun h => by cases h⟩

theorem over : Rows.codeStopsRow.holds Tryd.pinned (OpenSpec.ofChange Rows.codeStopsSpec) :=
  OpenClaim.holds_of_wide 5 Tryd.f5 rfl rfl rfl rfl rfl rfl rfl ⟨rfl, rfl, rfl, rfl, rfl⟩ rfl rfl rfl rfl rfl (by kernel_rfl) Tryd.func5 (by kernel_rfl)
    (of_decide_eq_true (by kernel_rfl)) (by unfold Func.isWrapper; first | (rw [if_pos (by decide +kernel)]; kernel_rfl) | (rw [if_neg (by decide +kernel)]; exact ⟨rfl, rfl⟩))
    (fun os started H enc _ => lifted os started H enc)

theorem card : Rows.CodeStopsCardSaid :=
  Claim7.holds_tied_plain_at .later [] [.handle] true (true, "6aacf6edaab462a4eb4776fd7baaeed8d584f891605cc816118d6e827fdbf6ea") true
    over (fun _ h => by cases h) (by kernel_rfl) (fun _ h => by cases h) codeStops_row_tie rfl ⟨rfl, rfl⟩ (by kernel_rfl) rfl
    (fun f fn hf hfn => by
      obtain rfl : f = 5 := Option.some.inj ((show Tryd.prog.funcNamed "wigwag/wigwaglaw02.CodeStops" = some 5 by kernel_rfl).symm.trans hf) |>.symm
      obtain rfl : fn = Tryd.f5 := (Option.some.inj (Tryd.func5.symm.trans hfn)).symm
      exact ⟨by kernel_rfl, fun j t ht => by
        rw [Tryd.params5] at ht
        have hall : ∀ t ∈ ([9, 22] : List TypeId), Tryd.prog.wantsStandIn t = false := by
          intro t ht
          simp only [List.mem_cons, List.not_mem_nil, or_false] at ht
          rcases ht with rfl | rfl <;> kernel_rfl
        exact hall t (by simpa using List.mem_of_getElem? (l := ([9, 22] : List TypeId)) (i := j) (by simpa using ht))⟩)
    (by kernel_rfl)

end Go.Proofs.YticdikllfkfkfaaDoor.codeStops

namespace Go.Proofs.YticdikllfkfkfaaDoor
/-- Proved: for every text and every list of things, CodeStops answers true (behind its first error a reader reads nothing more, and its error stays), errors.errorType being laid as the program's text lays it (the card's tie, over the pruned copy). -/
theorem codeStops_holds : Rows.CodeStopsCardSaid := codeStops.card
#print axioms codeStops_holds
end Go.Proofs.YticdikllfkfkfaaDoor
