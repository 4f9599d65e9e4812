/- Proved: for all ints, WindowRow answers true (events that come by rising numbers are all New, of each publisher for itself).
  The frame is the guide's own shell (proof-skeleton.mjs) at this function; the walk and all ahead of it are mine. -/
import Derived.Test.YtmnlbheicedloabRows
import Derived.Test.YtmnlbheicedloabWiLaw
import Derived.WalkKit
import Derived.WalkLawsBesides
import Derived.ProofKit
import Derived.OpenShut
import Derived.ShutString
namespace Go.Proofs.Ytmnlbheicedloab.windowRow
open Go.ChangeShapes Go.WideShapes Go.ChangeAt Go.RowKit
open Go.ChangeMaps (open_string shut_string)
set_option linter.unusedVariables false      -- a walk need not use every 'w<i>' (that an integer argument fits its kind)

theorem own : ownKnob Try.prog.godebug = none := by kernel_rfl


theorem r_new {L : List (Int × Int)} {p n : Int} (h : lastL L p < n) : whatL L p n = 1 ∧ comeL L p n = L ++ [(p, n)] := by
  have hn : (p, n) ∉ L := fun q => by have := lastL_ge q; omega
  have e : whatL L p n = 1 := by unfold whatL; rw [if_neg (by omega), if_neg hn]
  exact ⟨e, comeL_new e⟩
/-- Behind i rounds. -/
def RowI (p q by' : Int) (i : Nat) (L : List (Int × Int)) : Prop := lastL L p < 1 + i * by' ∧ lastL L q = i ∧ (1 ≤ i → lastL L p = 1 + (i - 1) * by')
theorem row_step {p q by' : Int} {i : Nat} {L : List (Int × Int)} (h : RowI p q by' i L) (hpq : p ≠ q) (hb : 1 ≤ by') :
    whatL (L ++ [(p, 1 + i * by')]) q (1 + i) = 1 ∧ comeL (L ++ [(p, 1 + i * by')]) q (1 + i) = (L ++ [(p, 1 + i * by')]) ++ [(q, (1 + i : Int))] ∧
    whatL ((L ++ [(p, 1 + i * by')]) ++ [(q, (1 + i : Int))]) p (1 + i * by') = 2 ∧ comeL ((L ++ [(p, 1 + i * by')]) ++ [(q, (1 + i : Int))]) p (1 + i * by') = (L ++ [(p, 1 + i * by')]) ++ [(q, (1 + i : Int))] ∧
    RowI p q by' (i + 1) ((L ++ [(p, 1 + i * by')]) ++ [(q, (1 + i : Int))]) := by
  obtain ⟨h1, h2, h3⟩ := h
  have e1 : lastL (L ++ [(p, 1 + i * by')]) q = i := by rw [lastL_other L _ hpq, h2]
  have n1 := r_new (L := L ++ [(p, 1 + i * by')]) (p := q) (n := 1 + i) (by rw [e1]; omega)
  have e2 : lastL ((L ++ [(p, 1 + i * by')]) ++ [(q, (1 + i : Int))]) p = 1 + i * by' := by
    rw [lastL_other _ _ (Ne.symm hpq), lastL_snoc, if_pos rfl]; omega
  have w2 : whatL ((L ++ [(p, 1 + i * by')]) ++ [(q, (1 + i : Int))]) p (1 + i * by') = 2 := by
    unfold whatL; rw [e2, if_neg (by omega), if_pos (by simp)]
  have em : ((i + 1 : Nat) : Int) * by' = i * by' + by' := by push_cast; rw [Int.add_mul, Int.one_mul]
  refine ⟨n1.1, n1.2, w2, comeL_not (by rw [w2]; omega), ?_, ?_, fun _ => ?_⟩
  · rw [e2, em]; omega
  · rw [lastL_snoc, if_pos rfl, e1]; omega
  · rw [e2]; have : ((i + 1 : Nat) : Int) - 1 = i := by omega
    rw [this]
theorem mul_bd {i : Nat} {b : Int} (hi : i ≤ 200) (h1 : 1 ≤ b) (h2 : b ≤ 1000) : 0 ≤ (i : Int) * b ∧ (i : Int) * b ≤ 200000 := by
  refine ⟨Int.mul_nonneg (by omega) (by omega), ?_⟩
  have := Int.mul_le_mul (a := (i : Int)) (b := b) (c := 200) (d := 1000) (by omega) h2 (by omega) (by omega)
  omega
/-! ### STEP 1: THE WALK: the Go text returns true. 'Grown w w'': the world has at most new blocks (Derived/RowKit3.lean). Part the cases AHEAD of 'go_enter' where a test parts the walk; take each callee by a contract of your own. -/
set_option maxRecDepth 100000 in
set_option maxHeartbeats 2000000 in
theorem walk (a0 : Int) (a1 : Int) (a2 : Int) (a3 : Int) (w0 : (Lit.int .i64 a0).wf = true) (w1 : (Lit.int .i64 a1).wf = true) (w2 : (Lit.int .i64 a2).wf = true) (w3 : (Lit.int .i64 a3).wf = true) (w : World) :
    Calls Try.prog 4 #[.int .i64 a0, .int .i64 a1, .int .i64 a2, .int .i64 a3] w fun e w' => e = .returned (.bool true) ∧ Below w.heap.size w w' := by
  by_cases hb : a0 < 0 ∨ 31 < a0 ∨ a1 < 0 ∨ 31 < a1 ∨ a0 = a1 ∨ a2 < 1 ∨ 200 < a2 ∨ a3 < 1 ∨ 1000 < a3
  · have hor : a0 < 0 ∨ (¬ a0 < 0 ∧ 31 < a0) ∨ (¬ a0 < 0 ∧ ¬ 31 < a0 ∧ a1 < 0) ∨ (¬ a0 < 0 ∧ ¬ 31 < a0 ∧ ¬ a1 < 0 ∧ 31 < a1) ∨ (¬ a0 < 0 ∧ ¬ 31 < a0 ∧ ¬ a1 < 0 ∧ ¬ 31 < a1 ∧ a0 = a1) ∨ (¬ a0 < 0 ∧ ¬ 31 < a0 ∧ ¬ a1 < 0 ∧ ¬ 31 < a1 ∧ ¬ a0 = a1 ∧ a2 < 1) ∨ (¬ a0 < 0 ∧ ¬ 31 < a0 ∧ ¬ a1 < 0 ∧ ¬ 31 < a1 ∧ ¬ a0 = a1 ∧ ¬ a2 < 1 ∧ 200 < a2) ∨ (¬ a0 < 0 ∧ ¬ 31 < a0 ∧ ¬ a1 < 0 ∧ ¬ 31 < a1 ∧ ¬ a0 = a1 ∧ ¬ a2 < 1 ∧ ¬ 200 < a2 ∧ a3 < 1) ∨ (¬ a0 < 0 ∧ ¬ 31 < a0 ∧ ¬ a1 < 0 ∧ ¬ 31 < a1 ∧ ¬ a0 = a1 ∧ ¬ a2 < 1 ∧ ¬ 200 < a2 ∧ ¬ a3 < 1 ∧ 1000 < a3) := by omega
    clear hb
    rcases hor with h1 | ⟨h1, h2⟩ | ⟨h1, h2, h3⟩ | ⟨h1, h2, h3, h4⟩ | ⟨h1, h2, h3, h4, h5⟩ | ⟨h1, h2, h3, h4, h5, h6⟩ | ⟨h1, h2, h3, h4, h5, h6, h7⟩ | ⟨h1, h2, h3, h4, h5, h6, h7, h8⟩ | ⟨h1, h2, h3, h4, h5, h6, h7, h8, h9⟩
    all_goals
      go_enter Try.func4, Try.ntmps4
      go_wp2_with (go_at_call 9; refine (awake14_any _).mono ?_; rintro e w' ⟨rfl, hb⟩)
      go_ret
      exact ⟨rfl, hb⟩
  have h1 : ¬ a0 < 0 := by omega
  have h2 : ¬ 31 < a0 := by omega
  have h3 : ¬ a1 < 0 := by omega
  have h4 : ¬ 31 < a1 := by omega
  have h5 : ¬ a0 = a1 := by omega
  have h6 : ¬ a2 < 1 := by omega
  have h7 : ¬ 200 < a2 := by omega
  have h8 : ¬ a3 < 1 := by omega
  have h9 : ¬ 1000 < a3 := by omega
  clear hb
  obtain ⟨m, rfl⟩ : ∃ m : Nat, a2 = m := ⟨a2.toNat, by omega⟩
  have HM := mul_bd (i := m - 1) (b := a3) (by omega) (by omega) (by omega)
  rw [show ((m - 1 : Nat) : Int) = (m : Int) - 1 by omega] at HM
  have HM0 := HM.1
  have HM1 := HM.2
  clear HM
  have H0 : Hid (OwnW w.heap.size w (w.alloc (.cells #[.map none] 25)) w.heap.size []) := OwnW.new w
  go_enter Try.func4, Try.ntmps4
  go_wp2
  go_loopw [10] (fun x wr => ∃ (i : Nat) (L : List (Int × Int)), x = .int .i64 i ∧ i ≤ m ∧ Hid (OwnW w.heap.size w wr w.heap.size L ∧ RowI a0 a1 a3 i L)) (fun x _ => m - (intOf x).toNat)
  case atStart => exact ⟨0, [], rfl, Nat.zero_le _, (⟨H0.out, by simp [lastL], by simp [lastL], fun h => by omega⟩ : _ ∧ RowI _ _ _ _ _)⟩
  case round =>
    obtain ⟨i, L, rfl, him, H⟩ := hrel
    clear H0
    by_cases hlt : i < m
    · have hx := mul_bd (i := i) (b := a3) (by omega) (by omega) (by omega)
      have hx0 := hx.1
      have hx1 := hx.2
      have hi0 : (0 : Int) ≤ (i : Int) := Int.natCast_nonneg _
      have hi1 : (i : Int) < (m : Int) := by omega
      clear hx
      have HE : Hid (EvOk a0 (1 + (i : Int) * a3) ∧ EvOk a1 (1 + (i : Int))) := ⟨ev_ok (by omega) (by omega) (by omega) (by omega), ev_ok (by omega) (by omega) (by omega) (by omega)⟩
      have HS := row_step H.out.2 h5 (by omega)
      have HQ : Hid _ := HS
      clear HS
      go_wp2_with fail
      refine (H.out.1.come a0 (1 + (i : Int) * a3) HE.out.1).mono ?_
      rintro e w1 ⟨rfl, hw1, _⟩
      rw [(r_new H.out.2.1).2] at hw1
      rw [(r_new H.out.2.1).1]
      have H1 : Hid _ := hw1
      clear hw1
      go_wp2_with fail
      refine (H1.out.come a1 (1 + (i : Int)) HE.out.2).mono ?_
      rintro e w2 ⟨rfl, hw1, _⟩
      rw [HQ.out.2.1] at hw1
      rw [HQ.out.1]
      have H2 : Hid _ := hw1
      clear hw1 H1
      go_wp2_with fail
      refine (H2.out.come a0 (1 + (i : Int) * a3) HE.out.1).mono ?_
      rintro e w3 ⟨rfl, hw1, _⟩
      rw [HQ.out.2.2.2.1] at hw1
      rw [HQ.out.2.2.1]
      have H3 : Hid _ := hw1
      clear hw1 H2
      go_wp2
      go_roundw
      case rel => exact ⟨i + 1, _, by go_num, by omega, (⟨H3.out, HQ.out.2.2.2.2⟩ : _ ∧ _)⟩
      case measure => simp [intOf]; omega
    · have him2 : i = m := by omega
      subst him2
      have e1 := H.out.2.2.2 (by omega)
      have e2 := H.out.2.2.1
      go_wp2_with (first
        | (go_at_call 9; refine (awake14_any _).mono ?_; rintro e w8 ⟨rfl, hb⟩; have H8 : Hid _ := H.out.1.below hb H.out.1.size; have HB : Hid _ := hb; clear hb)
        | (go_at_call 10; refine (H8.out.last _).mono ?_; rintro e w9 ⟨rfl, rfl⟩))
      go_ret
      exact ⟨ret_b (by simp), H8.out.bel⟩

/-! ### THE ROW's STEP: WRITTEN OUT: LEAVE IT -/
set_option maxRecDepth 100000 in
theorem lifted (os : Os) (started : os.Started) (H : Type) (enc : TypeId × Value → H) :
    ReturnsInHanded {} Try.checked os 4 .any (Rows.windowRowSpec.pre6 enc Try.prog Try.f4 Rows.windowRowRow.domain false) (Rows.windowRowSpec.post enc Try.prog Try.f4 false true false false) := by
  refine returnsInHanded_of_change (C := Try.checked) own started (by kernel_rfl) Try.func4
    (ChangeSpec.witness6 (enc := enc) (C := Try.checked) false ⟨#[], #[.int .i64 0, .int .i64 0, .int .i64 0, .int .i64 0], []⟩ 8 (by kernel_rfl) (by kernel_rfl) (by kernel_rfl) (by kernel_rfl)) ?_
  intro W base args ds gs before hval0 hW hcnd _
  have hval : ∀ (j : Nat) t v, Try.f4.params[j]? = some t → args[j]? = some v → Value.okWide Try.prog W .any base t v := hval0
  have hW' := hW
  obtain ⟨p, q, hA0, hV, rfl, hfz, hnd⟩ := hW
  have hA : DataW.TrodAll enc Try.prog W 0 (fun _ => true) true Try.f4.params.toList args.toList ds p := hA0
  rw [Try.params4] at hA hval
  obtain ⟨v0, vs0, d0, ds0, p0, q0, hargs, rfl, rfl, h0, r0⟩ := trodAll_cons hA
  obtain ⟨v1, vs1, d1, ds1, p1, q1, rfl, rfl, rfl, h1, r1⟩ := trodAll_cons r0
  obtain ⟨v2, vs2, d2, ds2, p2, q2, rfl, rfl, rfl, h2, r2⟩ := trodAll_cons r1
  obtain ⟨v3, vs3, d3, ds3, p3, q3, rfl, rfl, rfl, h3, r3⟩ := trodAll_cons r2
  obtain ⟨rfl, rfl, rfl⟩ := trodAll_nil r3
  obtain rfl : args = #[v0, v1, v2, v3] := by cases args; simp_all
  obtain ⟨rfl, rfl⟩ := trodVars_none hV
  obtain ⟨a0, rfl, rfl, rfl, w0⟩ := open_int Try.underlying3 (hval 0 3 v0 rfl rfl) h0
  obtain ⟨a1, rfl, rfl, rfl, w1⟩ := open_int Try.underlying3 (hval 1 3 v1 rfl rfl) h1
  obtain ⟨a2, rfl, rfl, rfl, w2⟩ := open_int Try.underlying3 (hval 2 3 v2 rfl rfl) h2
  obtain ⟨a3, rfl, rfl, rfl, w3⟩ := open_int Try.underlying3 (hval 3 3 v3 rfl rfl) h3
  clear hA0 hval0
  simp only [List.append_nil] at hW'
  refine (walk a0 a1 a2 a3 w0 w1 w2 w3 W).mono fun e W' ⟨he, bel⟩ => ?_
  subst he
  exact ⟨_, rfl, _, _, _, [], [], [], hW', trodAll_mk1 (shut_bool Try.underlying4 _), (trodAll_cons_mk (shut_int Try.underlying3 w0) (trodAll_cons_mk (shut_int Try.underlying3 w1) (trodAll_cons_mk (shut_int Try.underlying3 w2) (trodAll_cons_mk (shut_int Try.underlying3 w3) trodAll_mk0)))), rfl, bel.frame _, fun h => by cases h⟩

theorem over : Rows.windowRowRow.holds Try.pinned (OpenSpec.ofChange Rows.windowRowSpec) :=
  OpenClaim.holds_of_wide 4 Try.f4 rfl rfl rfl rfl rfl rfl rfl ⟨rfl, rfl, rfl, rfl, rfl⟩ rfl rfl rfl rfl rfl (by kernel_rfl) Try.func4 (by kernel_rfl)
    (of_decide_eq_true (by kernel_rfl)) (by unfold Func.isWrapper; first | (rw [if_pos (by decide +kernel)]; kernel_rfl) | (rw [if_neg (by decide +kernel)]; exact ⟨rfl, rfl⟩))
    (fun os started H enc _ => lifted os started H enc)

end Go.Proofs.Ytmnlbheicedloab.windowRow

namespace Go.Proofs.Ytmnlbheicedloab
/-- Proved: for all ints, WindowRow answers true (events that come by rising numbers are all New, of each publisher for itself). -/
theorem windowRow_holds : Rows.WindowRowSaid := windowRow.over
#print axioms windowRow_holds
end Go.Proofs.Ytmnlbheicedloab
