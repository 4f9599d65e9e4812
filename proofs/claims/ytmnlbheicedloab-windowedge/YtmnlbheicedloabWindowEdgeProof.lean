/- Proved: for all ints, WindowEdge answers true (of the last 64 numbers each is known, the one ahead of them is too old).
  The frame is the guide's own shell (proof-skeleton.mjs) at this function; the walk and all ahead of it are mine. -/
import Derived.Test.YtmnlbheicedloabRows
import Derived.Test.YtmnlbheicedloabWiLaw
import Derived.WalkKit
import Derived.WalkLawsBesides
import Derived.ProofKit
import Derived.OpenShut
import Derived.ShutString
namespace Go.Proofs.Ytmnlbheicedloab.windowEdge
open Go.ChangeShapes Go.WideShapes Go.ChangeAt Go.RowKit
open Go.ChangeMaps (open_string shut_string)
set_option linter.unusedVariables false      -- a walk need not use every 'w<i>' (that an integer argument fits its kind)

theorem own : ownKnob Try.prog.godebug = none := by kernel_rfl


theorem e_first (p n : Int) (h : 1 ≤ n) : whatL [] p n = 1 ∧ comeL [] p n = [(p, n)] := by
  have e : whatL [] p n = 1 := by simp [whatL, lastL]; omega
  exact ⟨e, by simpa using comeL_new e⟩
theorem e_last (p n : Int) (h : 1 ≤ n) : lastL [(p, n)] p = n := by simp [lastL]; omega
theorem e_old (p n k : Int) (h : 1 ≤ n) (h1 : 64 ≤ k) : whatL [(p, n)] p (n - k) = 3 ∧ comeL [(p, n)] p (n - k) = [(p, n)] := by
  have e : whatL [(p, n)] p (n - k) = 3 := by unfold whatL; rw [e_last p n h, if_pos (by omega)]
  exact ⟨e, comeL_not (by omega)⟩
theorem e_new (p n k : Int) (h : 1 ≤ n) (h1 : 1 ≤ k) (h2 : k < 64) : whatL [(p, n)] p (n - k) = 1 ∧ comeL [(p, n)] p (n - k) = [(p, n), (p, n - k)] := by
  have hne : ¬ n - k = n := by omega
  have e : whatL [(p, n)] p (n - k) = 1 := by unfold whatL; rw [e_last p n h, if_neg (by omega), if_neg (by simp; omega)]
  exact ⟨e, by simpa using comeL_new e⟩
theorem e_twice (p n k : Int) (h : 1 ≤ n) (h1 : 1 ≤ k) (h2 : k < 64) : whatL [(p, n), (p, n - k)] p (n - k) = 2 ∧ lastL [(p, n), (p, n - k)] p = n := by
  have e : lastL [(p, n), (p, n - k)] p = n := by simp [lastL]; omega
  refine ⟨?_, e⟩
  unfold whatL; rw [e, if_neg (by omega), if_pos (by simp)]
/-! ### STEP 1: THE WALK: the Go text returns true. 'Grown w w'': the world has at most new blocks (Derived/RowKit3.lean). Part the cases AHEAD of 'go_enter' where a test parts the walk; take each callee by a contract of your own. -/
set_option maxRecDepth 100000 in
set_option maxHeartbeats 2000000 in
theorem walk (a0 : Int) (a1 : Int) (a2 : Int) (w0 : (Lit.int .i64 a0).wf = true) (w1 : (Lit.int .i64 a1).wf = true) (w2 : (Lit.int .i64 a2).wf = true) (w : World) :
    Calls Try.prog 6 #[.int .i64 a0, .int .i64 a1, .int .i64 a2] w fun e w' => e = .returned (.bool true) ∧ Below w.heap.size w w' := by
  have hor : a0 < 0 ∨ (¬ a0 < 0 ∧ 31 < a0) ∨ (¬ a0 < 0 ∧ ¬ 31 < a0 ∧ a1 < 100) ∨ (¬ a0 < 0 ∧ ¬ 31 < a0 ∧ ¬ a1 < 100 ∧ 1073741824 < a1) ∨ (¬ a0 < 0 ∧ ¬ 31 < a0 ∧ ¬ a1 < 100 ∧ ¬ 1073741824 < a1 ∧ a2 < 1) ∨ (¬ a0 < 0 ∧ ¬ 31 < a0 ∧ ¬ a1 < 100 ∧ ¬ 1073741824 < a1 ∧ ¬ a2 < 1 ∧ 99 < a2) ∨ (¬ a0 < 0 ∧ ¬ 31 < a0 ∧ ¬ a1 < 100 ∧ ¬ 1073741824 < a1 ∧ ¬ a2 < 1 ∧ ¬ 99 < a2) := by omega
  rcases hor with h1 | ⟨h1, h2⟩ | ⟨h1, h2, h3⟩ | ⟨h1, h2, h3, h4⟩ | ⟨h1, h2, h3, h4, h5⟩ | ⟨h1, h2, h3, h4, h5, h6⟩ | ⟨h1, h2, h3, h4, h5, h6⟩
  iterate 6
    · go_enter Try.func6, Try.ntmps6
      go_wp2_with (go_at_call 9; refine (awake14_any _).mono ?_; rintro e w' ⟨rfl, hb⟩)
      go_ret
      exact ⟨rfl, hb⟩
  have HE : Hid (EvOk a0 a1 ∧ EvOk a0 (a1 - a2)) := ⟨ev_ok (by omega) (by omega) (by omega) (by omega), ev_ok (by omega) (by omega) (by omega) (by omega)⟩
  have H0 : Hid (OwnW w.heap.size w (w.alloc (.cells #[.map none] 25)) w.heap.size []) := OwnW.new w
  go_enter Try.func6, Try.ntmps6
  go_wp2_with fail
  refine (H0.out.come a0 a1 HE.out.1).mono ?_
  rintro e w1 ⟨rfl, hw1, _⟩
  rw [(e_first a0 a1 (by omega)).1]
  rw [(e_first a0 a1 (by omega)).2] at hw1
  have H1 : Hid _ := hw1
  clear hw1 H0
  by_cases hk : 64 ≤ a2
  · go_wp2_with fail
    refine (H1.out.come a0 (a1 - a2) HE.out.2).mono ?_
    rintro e w2 ⟨rfl, hw1, _⟩
    rw [(e_old a0 a1 a2 (by omega) hk).1]
    rw [(e_old a0 a1 a2 (by omega) hk).2] at hw1
    have H2 : Hid _ := hw1
    clear hw1 H1
    go_wp2_with fail
    refine (H2.out.come a0 (a1 - a2) HE.out.2).mono ?_
    rintro e w3 ⟨rfl, hw1, _⟩
    rw [(e_old a0 a1 a2 (by omega) hk).1]
    rw [(e_old a0 a1 a2 (by omega) hk).2] at hw1
    have H3 : Hid _ := hw1
    clear hw1 H2
    go_wp2_with (first
      | (go_at_call 10; refine (H3.out.last a0).mono ?_; rintro e w7 ⟨rfl, rfl⟩; rw [e_last a0 a1 (by omega)])
      | (go_at_call 9; refine (awake14_any _).mono ?_; rintro e w' ⟨rfl, hb⟩))
    go_ret
    exact ⟨rfl, H3.out.bel.trans (hb.mono H3.out.size)⟩
  · have hk2 : a2 < 64 := by omega
    go_wp2_with fail
    refine (H1.out.come a0 (a1 - a2) HE.out.2).mono ?_
    rintro e w2 ⟨rfl, hw1, _⟩
    rw [(e_new a0 a1 a2 (by omega) (by omega) hk2).1]
    rw [(e_new a0 a1 a2 (by omega) (by omega) hk2).2] at hw1
    have H2 : Hid _ := hw1
    clear hw1 H1
    go_wp2_with fail
    refine (H2.out.come a0 (a1 - a2) HE.out.2).mono ?_
    rintro e w3 ⟨rfl, hw1, _⟩
    have q := e_twice a0 a1 a2 (by omega) (by omega) hk2
    rw [comeL_not (by rw [q.1]; omega)] at hw1
    rw [q.1]
    clear q
    have H3 : Hid _ := hw1
    clear hw1 H2
    go_wp2_with (first
      | (go_at_call 10; refine (H3.out.last a0).mono ?_; rintro e w7 ⟨rfl, rfl⟩; rw [(e_twice a0 a1 a2 (by omega) (by omega) hk2).2])
      | (go_at_call 9; refine (awake14_any _).mono ?_; rintro e w' ⟨rfl, hb⟩))
    go_ret
    exact ⟨rfl, H3.out.bel.trans (hb.mono H3.out.size)⟩

/-! ### THE ROW's STEP: WRITTEN OUT: LEAVE IT -/
set_option maxRecDepth 100000 in
theorem lifted (os : Os) (started : os.Started) (H : Type) (enc : TypeId × Value → H) :
    ReturnsInHanded {} Try.checked os 6 .any (Rows.windowEdgeSpec.pre6 enc Try.prog Try.f6 Rows.windowEdgeRow.domain false) (Rows.windowEdgeSpec.post enc Try.prog Try.f6 false true false false) := by
  refine returnsInHanded_of_change (C := Try.checked) own started (by kernel_rfl) Try.func6
    (ChangeSpec.witness6 (enc := enc) (C := Try.checked) false ⟨#[], #[.int .i64 0, .int .i64 0, .int .i64 0], []⟩ 8 (by kernel_rfl) (by kernel_rfl) (by kernel_rfl) (by kernel_rfl)) ?_
  intro W base args ds gs before hval0 hW hcnd _
  have hval : ∀ (j : Nat) t v, Try.f6.params[j]? = some t → args[j]? = some v → Value.okWide Try.prog W .any base t v := hval0
  have hW' := hW
  obtain ⟨p, q, hA0, hV, rfl, hfz, hnd⟩ := hW
  have hA : DataW.TrodAll enc Try.prog W 0 (fun _ => true) true Try.f6.params.toList args.toList ds p := hA0
  rw [Try.params6] at hA hval
  obtain ⟨v0, vs0, d0, ds0, p0, q0, hargs, rfl, rfl, h0, r0⟩ := trodAll_cons hA
  obtain ⟨v1, vs1, d1, ds1, p1, q1, rfl, rfl, rfl, h1, r1⟩ := trodAll_cons r0
  obtain ⟨v2, vs2, d2, ds2, p2, q2, rfl, rfl, rfl, h2, r2⟩ := trodAll_cons r1
  obtain ⟨rfl, rfl, rfl⟩ := trodAll_nil r2
  obtain rfl : args = #[v0, v1, v2] := by cases args; simp_all
  obtain ⟨rfl, rfl⟩ := trodVars_none hV
  obtain ⟨a0, rfl, rfl, rfl, w0⟩ := open_int Try.underlying3 (hval 0 3 v0 rfl rfl) h0
  obtain ⟨a1, rfl, rfl, rfl, w1⟩ := open_int Try.underlying3 (hval 1 3 v1 rfl rfl) h1
  obtain ⟨a2, rfl, rfl, rfl, w2⟩ := open_int Try.underlying3 (hval 2 3 v2 rfl rfl) h2
  clear hA0 hval0
  simp only [List.append_nil] at hW'
  refine (walk a0 a1 a2 w0 w1 w2 W).mono fun e W' ⟨he, bel⟩ => ?_
  subst he
  exact ⟨_, rfl, _, _, _, [], [], [], hW', trodAll_mk1 (shut_bool Try.underlying4 _), (trodAll_cons_mk (shut_int Try.underlying3 w0) (trodAll_cons_mk (shut_int Try.underlying3 w1) (trodAll_cons_mk (shut_int Try.underlying3 w2) trodAll_mk0))), rfl, bel.frame _, fun h => by cases h⟩

theorem over : Rows.windowEdgeRow.holds Try.pinned (OpenSpec.ofChange Rows.windowEdgeSpec) :=
  OpenClaim.holds_of_wide 6 Try.f6 rfl rfl rfl rfl rfl rfl rfl ⟨rfl, rfl, rfl, rfl, rfl⟩ rfl rfl rfl rfl rfl (by kernel_rfl) Try.func6 (by kernel_rfl)
    (of_decide_eq_true (by kernel_rfl)) (by unfold Func.isWrapper; first | (rw [if_pos (by decide +kernel)]; kernel_rfl) | (rw [if_neg (by decide +kernel)]; exact ⟨rfl, rfl⟩))
    (fun os started H enc _ => lifted os started H enc)

end Go.Proofs.Ytmnlbheicedloab.windowEdge

namespace Go.Proofs.Ytmnlbheicedloab
/-- Proved: for all ints, WindowEdge answers true (of the last 64 numbers each is known, the one ahead of them is too old). -/
theorem windowEdge_holds : Rows.WindowEdgeSaid := windowEdge.over
#print axioms windowEdge_holds
end Go.Proofs.Ytmnlbheicedloab
