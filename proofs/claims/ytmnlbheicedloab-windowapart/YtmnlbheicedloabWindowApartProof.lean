/- Proved: for every list of pairs and every publisher, WindowApart answers true (what comes of one publisher changes nothing of another one; of at most 60 events).
  The frame is the guide's own shell (proof-skeleton.mjs) at this function; the walk and all ahead of it are mine. -/
import Derived.Test.YtmnlbheicedloabRows
import Derived.Test.YtmnlbheicedloabWiTwo
import Derived.Test.YtmnlbheicedloabWiRow
import Derived.Deep.QuietTactic
import Derived.BigQuiet
import Derived.Deep.RegionWith
import Derived.WalkKit
import Derived.WalkLawsBesides
import Derived.ProofKit
import Derived.OpenShut
import Derived.ShutString
import Derived.ChangeOld
import Derived.Below
namespace Go.Proofs.Ytmnlbheicedloab.windowApart
open Go.ChangeShapes Go.WideShapes Go.ChangeAt Go.RowKit
open Go.ChangeMaps (open_string shut_string)
set_option linter.unusedVariables false

theorem own : ownKnob Try.prog.godebug = none := by kernel_rfl
theorem laidOut : laidOutB Try.prog = true := by kernel_rfl


theorem bcellW {B : Nat} {w wr : World} (h : Below B w wr) (b o : Nat) (hb : b < B) : wr.cell? ⟨b, o, none⟩ = w.cell? ⟨b, o, none⟩ := h.cell (p := ⟨b, o, none⟩) hb
/-! ### STEP 1: the walk -/
set_option maxRecDepth 100000 in
set_option maxHeartbeats 2000000 in
theorem walk (a0 : Option Addr) (len0 cap0 : Nat) (t0 : List (Int × Int)) (a1 : Int) (w : World) (w0 : InRow 2 encP okP ((0, 0) : Int × Int) w a0 len0 t0) (w1 : (Lit.int .i64 a1).wf = true) :
    Calls Try.prog 5 #[.slice a0 len0 cap0, .int .i64 a1] w fun e w' => e = .returned (.bool true) ∧ Below w.heap.size w w' := by
  have hmx0 := w0.2.1
  have HX : Hid (InRow 2 encP okP (0, 0) w a0 len0 t0) := w0
  clear w0
  go_enter Try.func5, Try.ntmps5
  go_wp2
  go_loopw [7] (fun x wr => ∃ (i : Nat) (L1 L2 : List (Int × Int)), x = .int .i64 i ∧ i ≤ len0 ∧ i ≤ 60 ∧ Hid (Two w wr w.heap.size L1 (w.heap.size + 1) L2 ∧ Alike a1 L1 L2)) (fun x _ => 60 - (intOf x).toNat)
  case atStart => exact ⟨0, [], [], rfl, Nat.zero_le _, Nat.zero_le _, (⟨Two.new w, alike_nil _⟩ : _ ∧ Alike _ _ _)⟩
  case round =>
    obtain ⟨i, L1, L2, rfl, hil, hi60, H⟩ := hrel
    by_cases hlt : i < len0 ∧ i < 60
    · obtain ⟨hl1, hl2⟩ := hlt
      obtain ⟨b, o, ha, hb, hcells⟩ := HX.out.2.2.resolve_left (by omega)
      subst ha
      obtain ⟨hok, hc⟩ := hcells i hl1
      obtain ⟨x, hx⟩ : ∃ t, t = t0.getD i (0, 0) := ⟨_, rfl⟩
      rw [← hx] at hok hc
      have hB := H.out.1.bel
      have s0 := (bcellW hB b (o + i * 2 + 0) hb).trans (hc 0 (by omega))
      have s1 := (bcellW hB b (o + i * 2 + 1) hb).trans (hc 1 (by omega))
      simp only [encP, Nat.add_zero, List.getElem?_cons_zero, List.getElem?_cons_succ] at s0 s1
      have hi0 : (0 : Int) ≤ (i : Int) := Int.natCast_nonneg _
      have hi1 : (i : Int) < (len0 : Int) := by omega
      have hi2 : (i : Int) < 60 := by omega
      have hb' : b < wr.heap.size := by have := hB.size; omega
      obtain ⟨p, n⟩ := x
      simp only at s0 s1
      clear hx hc hcells hB hok
      by_cases hp : p = a1
      · subst hp
        by_cases hE : EvOk p n
        · have HE : Hid (EvOk p n) := hE
          clear hE
          go_wp2_with fail
          refine (H.out.1.come p n HE.out).mono ?_
          rintro e w1 ⟨rfl, hw1⟩
          have t1 := (bcellW hw1.bel b (o + i * 2 + 1) hb).trans ((bcellW H.out.1.bel b (o + i * 2 + 1) hb).symm.trans s1)
          have hb1 : b < w1.heap.size := by have := hw1.bel.size; omega
          rw [H.out.2.what n]
          have H1 : Hid _ := hw1
          clear hw1
          go_wp2_with fail
          refine (H1.out.come2 p n HE.out).mono ?_
          rintro e w2 ⟨rfl, hw2⟩
          have H2 : Hid _ := hw2
          have HA : Hid _ := H.out.2.come n
          clear hw2 H1 t1 hb1
          generalize whatL L2 p n = k
          generalize comeL L1 p n = M1 at H2 HA
          generalize comeL L2 p n = M2 at H2 HA
          obtain ⟨l, hl⟩ : ∃ l, l = lastL M2 p := ⟨_, rfl⟩
          have HL : Hid (lastL M1 p = l ∧ lastL M2 p = l) := ⟨by rw [hl]; exact HA.out.1, hl.symm⟩
          clear hl
          go_wp2_with fail
          go_quiet ((go_at_call 10; exact Calls.quiet_of_same (Two.lasts (H2.out.drewN _) p l HL.out.1 HL.out.2 _ (by first | exact .inl rfl | exact .inr rfl))))
          go_wp2
          go_roundw
          case rel => exact ⟨i + 1, M1, M2, by go_num, by omega, by omega, (⟨H2.out.drewN _, HA.out⟩ : Two _ _ _ _ _ _ ∧ Alike _ _ _)⟩
          case measure => simp [intOf]; omega
        · have HE : Hid (¬ EvOk p n) := hE
          clear hE
          obtain ⟨l, hl⟩ : ∃ l, l = lastL L2 p := ⟨_, rfl⟩
          have HL : Hid (lastL L1 p = l ∧ lastL L2 p = l) := ⟨by rw [hl]; exact H.out.2.1, hl.symm⟩
          clear hl
          go_wp2_with (go_at_call 8; refine (come_bad _ _ _ _ HE.out).mono ?_; rintro e w1 ⟨rfl, rfl⟩)
          go_quiet ((go_at_call 10; exact Calls.quiet_of_same (Two.lasts (H.out.1.drewN _) p l HL.out.1 HL.out.2 _ (by first | exact .inl rfl | exact .inr rfl))))
          go_wp2
          go_roundw
          case rel => exact ⟨i + 1, L1, L2, by go_num, by omega, by omega, (⟨H.out.1.drewN _, H.out.2⟩ : Two _ _ _ _ _ _ ∧ Alike _ _ _)⟩
          case measure => simp [intOf]; omega
      · have hpn : (p != a1) = true := by simpa using hp
        by_cases hE : EvOk p n
        · have HE : Hid (EvOk p n) := hE
          have HP : Hid (p ≠ a1) := hp
          clear hE hp
          go_wp2_with fail
          go_region_with ((go_at_call 8; refine (H.out.1.drew.come p n HE.out).mono ?_; rintro e w1 ⟨rfl, hw1⟩; have H1 : Hid _ := hw1; clear hw1))
          all_goals
            go_wp2
            go_roundw
            case rel => exact ⟨i + 1, comeL L1 p n, L2, by go_num, by omega, by omega, (⟨H1.out, H.out.2.other n HP.out⟩ : _ ∧ _)⟩
            case measure => simp [intOf]; omega
        · have HE : Hid (¬ EvOk p n) := hE
          clear hE hp
          go_wp2_with fail
          go_region_with ((go_at_call 8; refine (come_bad _ _ _ _ HE.out).mono ?_; rintro e w1 ⟨rfl, rfl⟩))
          all_goals
            go_wp2
            go_roundw
            case rel => exact ⟨i + 1, L1, L2, by go_num, by omega, by omega, (⟨H.out.1.drew, H.out.2⟩ : Two _ _ _ _ _ _ ∧ Alike _ _ _)⟩
            case measure => simp [intOf]; omega
    · have hor : (True ∧ ¬ (i : Int) < (len0 : Int)) ∨ ((i : Int) < (len0 : Int) ∧ ¬ (i : Int) < 60) := by
        by_cases q : (i : Int) < (len0 : Int)
        · exact .inr ⟨q, by omega⟩
        · exact .inl ⟨trivial, q⟩
      obtain ⟨l, hl⟩ : ∃ l, l = lastL L2 a1 := ⟨_, rfl⟩
      have HL : Hid (lastL L1 a1 = l ∧ lastL L2 a1 = l) := ⟨by rw [hl]; exact H.out.2.1, hl.symm⟩
      clear hlt hl
      rcases hor with ⟨hor', hor⟩ | ⟨hor', hor⟩
      all_goals
        go_wp2_with (first
          | (go_at_call 9; refine (awake14_any _).mono ?_; rintro e w8 ⟨rfl, hb8⟩; have H8 : Hid _ := H.out.1.below hb8; clear hb8)
          | (go_at_call 10; refine (Two.lasts H8.out a1 l HL.out.1 HL.out.2 _ (by first | exact .inl rfl | exact .inr rfl)).mono ?_; rintro e w9 ⟨rfl, rfl⟩))
        go_ret
        exact ⟨ret_b (by simp), H8.out.bel⟩

/-! ### The row's step -/
set_option maxRecDepth 100000 in
theorem lifted (os : Os) (started : os.Started) (H : Type) (enc : TypeId × Value → H) :
    ReturnsInHanded {} Try.checked os 5 .any (Rows.windowApartSpec.pre6 enc Try.prog Try.f5 Rows.windowApartRow.domain false) (Rows.windowApartSpec.post enc Try.prog Try.f5 false true false false) := by
  refine returnsInHanded_of_change (C := Try.checked) own started (by kernel_rfl) Try.func5
    (ChangeSpec.witness6 (enc := enc) (C := Try.checked) false ⟨#[], #[.slice none 0 0, .int .i64 0], []⟩ 8 (by kernel_rfl) (by kernel_rfl) (by kernel_rfl) (by kernel_rfl)) ?_
  intro W base args ds gs before hval0 hW hcnd _
  have hval : ∀ (j : Nat) t v, Try.f5.params[j]? = some t → args[j]? = some v → Value.okWide Try.prog W .any base t v := hval0
  have hW' := hW
  obtain ⟨p, q, hA0, hV, rfl, hfz, hnd⟩ := hW
  have hA : DataW.TrodAll enc Try.prog W 0 (fun _ => true) true Try.f5.params.toList args.toList ds p := hA0
  rw [Try.params5] at hA hval
  obtain ⟨v0, vs0, d0, ds0, p0, q0, hargs, rfl, rfl, h0, r0⟩ := trodAll_cons hA
  obtain ⟨v1, vs1, d1, ds1, p1, q1, rfl, rfl, rfl, h1, r1⟩ := trodAll_cons r0
  obtain ⟨rfl, rfl, rfl⟩ := trodAll_nil r1
  obtain rfl : args = #[v0, v1] := by cases args; simp_all
  obtain ⟨rfl, rfl⟩ := trodVars_none hV
  obtain ⟨a0, len0, cap0, rfl⟩ := okWide_slice Try.underlying22 (hval 0 22 v0 rfl rfl)
  have k0 := h0
  have lt0 : ∀ x ∈ p0, x.block < W.heap.size := by obtain ⟨m, hm⟩ := k0; exact DataW.trod_lt m _ _ _ hm
  obtain ⟨t0, w0⟩ : ∃ ts, InRow 2 encP okP ((0, 0) : Int × Int) W a0 len0 ts := by
    obtain ⟨fuel, hf⟩ := h0
    exact inrow_of 2 encP okP ((0, 0) : Int × Int) 22 30 Try.underlying22 cellsP2 (by omega) lenP (fun n cs x => pair_of n cs x) hf
  obtain ⟨a1, rfl, rfl, rfl, w1⟩ := open_int Try.underlying3 (hval 1 3 v1 rfl rfl) h1
  clear hA0 hval0
  refine (walk a0 len0 cap0 t0 a1 W w0 w1).mono fun e W' ⟨he, bel⟩ => ?_
  subst he
  exact ⟨_, rfl, _, _, _, [], _, [], hW', trodAll_mk1 (shut_bool Try.underlying4 _), (trodAll_cons_mk (Below.trod laidOut (by kernel_rfl) (of_decide_eq_true (by kernel_rfl)) k0 bel lt0) (trodAll_cons_mk (shut_int Try.underlying3 w1) trodAll_mk0)), rfl, bel.frame _, fun h => by cases h⟩

theorem over : Rows.windowApartRow.holds Try.pinned (OpenSpec.ofChange Rows.windowApartSpec) :=
  OpenClaim.holds_of_wide 5 Try.f5 rfl rfl rfl rfl rfl rfl rfl ⟨rfl, rfl, rfl, rfl, rfl⟩ rfl rfl rfl rfl rfl (by kernel_rfl) Try.func5 (by kernel_rfl)
    (of_decide_eq_true (by kernel_rfl)) (by unfold Func.isWrapper; first | (rw [if_pos (by decide +kernel)]; kernel_rfl) | (rw [if_neg (by decide +kernel)]; exact ⟨rfl, rfl⟩))
    (fun os started H enc _ => lifted os started H enc)

end Go.Proofs.Ytmnlbheicedloab.windowApart

namespace Go.Proofs.Ytmnlbheicedloab
/-- Proved: for every list of pairs and every publisher, WindowApart answers true (what comes of one publisher changes nothing of another one; of at most 60 events). -/
theorem windowApart_holds : Rows.WindowApartSaid := windowApart.over
#print axioms windowApart_holds
end Go.Proofs.Ytmnlbheicedloab
