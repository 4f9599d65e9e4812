/- Proved: for every two ints, CodeInts answers true (ints come back, unlike ones are unlike bytes, the nearer to 0 the fewer bytes).
  The frame is the guide's own shell (proof-skeleton.mjs) at this function; the walk and all ahead of it are mine. -/
import Derived.Test.YthadgekojenpjaaRows
import Derived.Test.YthadgekojenpjaaAid
import Derived.Test.YthadgekojenpjaaCodeMath
import Derived.Test.YthadgekojenpjaaOwnSrc
import Derived.Test.YthadgekojenpjaaCodeW
import Derived.Test.YthadgekojenpjaaCodeR
import Derived.Test.YthadgekojenpjaaCodeR2
import Derived.Test.YthadgekojenpjaaCodeIs
import Derived.Test.YthadgekojenpjaaCodeAwake
import Derived.Test.YthadgekojenpjaaCodeUse
import Derived.Test.YthadgekojenpjaaCodeRI
import Derived.WalkKit
import Derived.WalkLawsBesides
import Derived.ProofKit
import Derived.OpenShut
import Derived.ShutString
namespace Go.Proofs.Ythadgekojenpjaa.codeInts
open Go.ChangeShapes Go.WideShapes Go.ChangeAt Go.RowKit
open Go.ChangeMaps (open_string shut_string)
set_option linter.unusedVariables false      -- a walk need not use every 'w<i>' (that an integer argument fits its kind)

theorem own : ownKnob Try.prog.godebug = none := by kernel_rfl


theorem zig_mono (a b : Int) (h0 : 0 ≤ a) (h : a ≤ b) : zig a ≤ zig b := by
  rw [zig, zig, if_pos h0, if_pos (by omega)]; omega
theorem len_le (a b : Int) (h0 : 0 ≤ a) (h : a ≤ b) : (numB (zig a)).length ≤ (numB (zig b)).length := numB_mono _ _ (zig_mono a b h0 h)
theorem bytes_beq (a b : Int) (a0 : -9223372036854775808 ≤ a) (a1 : a ≤ 9223372036854775807) (b0 : -9223372036854775808 ≤ b) (b1 : b ≤ 9223372036854775807) : (numB (zig a) == numB (zig b)) = (a == b) := by
  by_cases h : a = b
  · subst h; simp
  · rw [beq_eq_false_iff_ne.2 h]
    refine beq_eq_false_iff_ne.2 (fun e => h ?_)
    have := numB_inj _ _ (zig_lt a a0 a1) (zig_lt b b0 b1) e
    rw [← zag_zig a, ← zag_zig b, this]
/-! ### STEP 1: THE WALK: the Go text returns true. 'Grown w w'': the world has at most new blocks (Derived/RowKit3.lean). Part the cases AHEAD of 'go_enter' where a test parts the walk; take each callee by a contract of your own. -/
theorem walk (a0 : Int) (a1 : Int) (w0 : (Lit.int .i64 a0).wf = true) (w1 : (Lit.int .i64 a1).wf = true) (w : World) :
    Calls Try.prog 6 #[.int .i64 a0, .int .i64 a1] w fun e w' => e = .returned (.bool true) ∧ Below w.heap.size w w' := by
  have b0 := bounds_i64 w0
  have b1 := bounds_i64 w1
  obtain ⟨a00, a01⟩ := b0
  obtain ⟨a10, a11⟩ := b1
  have hl0 := numB_len10 (zig a0) (zig_lt a0 a00 a01)
  have hl1 := numB_len10 (zig a1) (zig_lt a1 a10 a11)
  have hW0 := (wr_new w.heap.size w (Nat.le_refl _)).alloc (.cells #[.slice none 0 0] 25)
  have hU0 := wr_new w.heap.size (w.alloc (.cells #[.slice none 0 0] 25)) (by simp)
  have b0 : Below w.heap.size w ((w.alloc (.cells #[.slice none 0 0] 25)).alloc (.cells #[.slice none 0 0] 25)) := ((Below.refl _ _).alloc (Nat.le_refl _) _).alloc (by simp) _
  have hs0 : (w.alloc (.cells #[.slice none 0 0] 25)).heap.size = w.heap.size + 1 := by simp
  rw [hs0] at hU0
  clear hs0
  go_enter Try.func6, Try.ntmps6
  go_wp2_with fail
  refine (wint_any w.heap.size w.heap.size _ [] a0 _ hW0 (by simp; omega) a00 a01 (by simp)).mono ?_
  rintro e w1' ⟨rfl, v1, hW1, hK1⟩
  have b1 := hK1.below hW0 b0 (by simp; omega)
  have hU1 := hU0.kept hK1 (by omega) (by simp [Value.ownBlock]) (by simp [Value.ownBlock]) (by simp [Value.ownBlock])
  have hv1 : ∀ k, v1.ownBlock = some k → w.heap.size + 2 ≤ k := fun k hk => by
    rcases hK1.own k hk with h1 | h1
    · simp [Value.ownBlock] at h1
    · simpa using h1
  rw [List.nil_append] at hW1
  clear hK1 hW0 hU0 b0
  go_wp2_with fail
  refine (wint_any w.heap.size (w.heap.size + 1) _ [] a1 _ hU1 (by have := hU1.lt; omega) a10 a11 (by simp)).mono ?_
  rintro e w2' ⟨rfl, v2, hU2, hK2⟩
  have b2 := hK2.below hU1 b1 (by have := hU1.lt; omega)
  have hW2 := hW1.kept hK2 (by omega) (fun e => by have := hv1 _ e; omega) (by simp [Value.ownBlock]) (by simp [Value.ownBlock])
  rw [List.nil_append] at hU2
  have hsz : w.heap.size + 1 < w2'.heap.size := hU2.lt
  have hv2 : ∀ k, v2.ownBlock = some k → k < w2'.heap.size := fun k hk => (hU2.row.lt k hk).2
  have hv1' : ∀ k, v1.ownBlock = some k → k < w2'.heap.size := fun k hk => (hW2.row.lt k hk).2
  clear hK2 hW1 hU1 hv1
  go_wp2_with fail
  refine (bytes_any w.heap.size w.heap.size v1 _ w2' hW2).mono ?_
  rintro e w3 ⟨rfl, rfl⟩
  go_wp2_with fail
  refine (open_any _ _).mono ?_
  rintro e w4 ⟨rfl, rfl⟩
  have hRx := rd_new w3 ⟨(numB (zig a0)).toArray⟩
  have hW3 := hW2.alloc (.cells #[.string ⟨(numB (zig a0)).toArray⟩, .int .i64 0, .int .i64 0] 56)
  have hU3 := hU2.alloc (.cells #[.string ⟨(numB (zig a0)).toArray⟩, .int .i64 0, .int .i64 0] 56)
  have b3 := b2.alloc (by omega) (.cells #[.string ⟨(numB (zig a0)).toArray⟩, .int .i64 0, .int .i64 0] 56)
  clear hW2 hU2 b2
  go_wp2_with fail
  refine (bytes_any w.heap.size (w.heap.size + 1) v2 _ _ hU3).mono ?_
  rintro e w4 ⟨rfl, hw4⟩
  rw [hw4]
  clear hw4 w4
  go_wp2_with fail
  refine (open_any _ _).mono ?_
  rintro e w5 ⟨rfl, hw5⟩
  have hs3 : (w3.alloc (.cells #[.string ⟨(numB (zig a0)).toArray⟩, .int .i64 0, .int .i64 0] 56)).heap.size = w3.heap.size + 1 := by simp
  have hRy : Rd w5 (w3.heap.size + 1) ⟨(numB (zig a1)).toArray⟩ 0 0 := by rw [hw5, ← hs3]; exact rd_new _ _
  have hRx5 : Rd w5 w3.heap.size ⟨(numB (zig a0)).toArray⟩ 0 0 := by rw [hw5]; exact hRx.alloc _
  have hW5 : Wr w.heap.size w5 w.heap.size v1 (numB (zig a0)) := by rw [hw5]; exact hW3.alloc _
  have hU5 : Wr w.heap.size w5 (w.heap.size + 1) v2 (numB (zig a1)) := by rw [hw5]; exact hU3.alloc _
  have b5 : Below w.heap.size w w5 := by rw [hw5]; exact b3.alloc (by simp; omega) _
  rw [hs3]
  clear hw5 hs3 hRx hW3 hU3 b3
  go_wp2_with fail
  refine (rint_back w3.heap.size a0 _ hRx5 a00 a01).mono ?_
  rintro e w6 ⟨rfl, hRx6, hS6⟩
  have hRy6 := hRy.adds hS6.adds (by omega)
  have hW6 := hW5.adds (q := w3.heap.size) (by omega) (fun e => by have := hv1' _ e; omega) hS6.adds
  have hU6 := hU5.adds (q := w3.heap.size) (by omega) (fun e => by have := hv2 _ e; omega) hS6.adds
  have b6 := hS6.adds.below (B := w.heap.size) (by omega) (by have := hW5.lt; omega) b5
  have hne0 : (a0 != a0) = false := by simp
  have hne1 : (a1 != a1) = false := by simp
  clear hS6 hRx5 hRy hW5 hU5 b5
  go_wp2_with fail
  refine (rint_back (w3.heap.size + 1) a1 _ hRy6 a10 a11).mono ?_
  rintro e w7 ⟨rfl, hRy7, hS7⟩
  have hRx7 := hRx6.adds hS7.adds (by omega)
  have hW7 := hW6.adds (q := w3.heap.size + 1) (by omega) (fun e => by have := hv1' _ e; omega) hS7.adds
  have hU7 := hU6.adds (q := w3.heap.size + 1) (by omega) (fun e => by have := hv2 _ e; omega) hS7.adds
  have b7 := hS7.adds.below (B := w.heap.size) (by omega) (by have := hW6.lt; omega) b6
  clear hS7 hRx6 hRy6 hW6 hU6 b6
  go_wp2_with fail
  refine (done_nil w3.heap.size _ _ _ hRx7 (by show ¬ _ < (numB (zig a0)).toArray.size; simp)).mono ?_
  rintro e w8 ⟨rfl, hRx8, hA8⟩
  have hRy8 := hRy7.adds hA8 (by omega)
  have hW8 := hW7.adds (q := w3.heap.size) (by omega) (fun e => by have := hv1' _ e; omega) hA8
  have hU8 := hU7.adds (q := w3.heap.size) (by omega) (fun e => by have := hv2 _ e; omega) hA8
  have b8 := hA8.below (B := w.heap.size) (by omega) (by have := hW7.lt; omega) b7
  clear hA8 hRx7 hRy7 hW7 hU7 b7
  go_wp2_with fail
  refine (done_nil (w3.heap.size + 1) _ _ _ hRy8 (by show ¬ _ < (numB (zig a1)).toArray.size; simp)).mono ?_
  rintro e w9 ⟨rfl, hRy9, hA9⟩
  have hW9 := hW8.adds (q := w3.heap.size + 1) (by omega) (fun e => by have := hv1' _ e; omega) hA9
  have hU9 := hU8.adds (q := w3.heap.size + 1) (by omega) (fun e => by have := hv2 _ e; omega) hA9
  have b9 := hA9.below (B := w.heap.size) (by omega) (by have := hW8.lt; omega) b8
  have s9 := hW9.lt
  clear hA9 hRx8 hRy8 hW8 hU8 b8 hRy9
  rcases (show (0 ≤ a0 ∧ a0 ≤ a1) ∨ (0 ≤ a0 ∧ ¬ a0 ≤ a1) ∨ ¬ 0 ≤ a0 by omega) with ⟨c0, c1⟩ | ⟨c0, c1⟩ | c0
  · have hle := len_le a0 a1 c0 c1
    go_wp2_with fail
    refine (bytes_any w.heap.size w.heap.size v1 _ w9 hW9).mono ?_
    rintro e w' ⟨rfl, hw'⟩
    rw [hw']
    clear hw' w'
    go_wp2_with fail
    refine (bytes_any w.heap.size (w.heap.size + 1) v2 _ w9 hU9).mono ?_
    rintro e w' ⟨rfl, hw'⟩
    rw [hw']
    clear hw' w'
    go_wp2_with fail
    refine (cawake_any w9).mono ?_
    rintro e w10 ⟨rfl, hb10⟩
    have hW10 := hW9.below hb10
    have hU10 := hU9.below hb10
    have b10 := b9.trans (hb10.mono (by omega))
    clear hW9 hU9 b9 hb10
    have hEq := bytes_beq a0 a1 a00 a01 a10 a11
    go_wp2_with fail
    refine (bytes_any w.heap.size w.heap.size v1 _ w10 hW10).mono ?_
    rintro e w' ⟨rfl, hw'⟩
    rw [hw']
    clear hw' w'
    go_wp2_with fail
    refine (bytes_any w.heap.size (w.heap.size + 1) v2 _ w10 hU10).mono ?_
    rintro e w' ⟨rfl, hw'⟩
    rw [hw']
    clear hw' w'
    go_wp2_with fail
    refine (bytes_any w.heap.size w.heap.size v1 _ w10 hW10).mono ?_
    rintro e w' ⟨rfl, hw'⟩
    rw [hw']
    clear hw' w'
    go_wp2
    go_ret
    exact ⟨by simp; omega, b10⟩
  · go_wp2_with fail
    refine (cawake_any w9).mono ?_
    rintro e w10 ⟨rfl, hb10⟩
    have hW10 := hW9.below hb10
    have hU10 := hU9.below hb10
    have b10 := b9.trans (hb10.mono (by omega))
    clear hW9 hU9 b9 hb10
    have hEq := bytes_beq a0 a1 a00 a01 a10 a11
    go_wp2_with fail
    refine (bytes_any w.heap.size w.heap.size v1 _ w10 hW10).mono ?_
    rintro e w' ⟨rfl, hw'⟩
    rw [hw']
    clear hw' w'
    go_wp2_with fail
    refine (bytes_any w.heap.size (w.heap.size + 1) v2 _ w10 hU10).mono ?_
    rintro e w' ⟨rfl, hw'⟩
    rw [hw']
    clear hw' w'
    go_wp2_with fail
    refine (bytes_any w.heap.size w.heap.size v1 _ w10 hW10).mono ?_
    rintro e w' ⟨rfl, hw'⟩
    rw [hw']
    clear hw' w'
    go_wp2
    go_ret
    exact ⟨by simp; omega, b10⟩
  · go_wp2_with fail
    refine (cawake_any w9).mono ?_
    rintro e w10 ⟨rfl, hb10⟩
    have hW10 := hW9.below hb10
    have hU10 := hU9.below hb10
    have b10 := b9.trans (hb10.mono (by omega))
    clear hW9 hU9 b9 hb10
    have hEq := bytes_beq a0 a1 a00 a01 a10 a11
    go_wp2_with fail
    refine (bytes_any w.heap.size w.heap.size v1 _ w10 hW10).mono ?_
    rintro e w' ⟨rfl, hw'⟩
    rw [hw']
    clear hw' w'
    go_wp2_with fail
    refine (bytes_any w.heap.size (w.heap.size + 1) v2 _ w10 hU10).mono ?_
    rintro e w' ⟨rfl, hw'⟩
    rw [hw']
    clear hw' w'
    go_wp2_with fail
    refine (bytes_any w.heap.size w.heap.size v1 _ w10 hW10).mono ?_
    rintro e w' ⟨rfl, hw'⟩
    rw [hw']
    clear hw' w'
    go_wp2
    go_ret
    exact ⟨by simp; omega, b10⟩

/-! ### THE ROW's STEP: WRITTEN OUT: LEAVE IT -/
set_option maxRecDepth 100000 in
theorem lifted (os : Os) (started : os.Started) (H : Type) (enc : TypeId × Value → H) :
    ReturnsInHanded {} Try.checked os 6 .any (Rows.codeIntsSpec.pre6 enc Try.prog Try.f6 Rows.codeIntsRow.domain false) (Rows.codeIntsSpec.post enc Try.prog Try.f6 false true false false) := by
  refine returnsInHanded_of_change (C := Try.checked) own started (by kernel_rfl) Try.func6
    (ChangeSpec.witness6 (enc := enc) (C := Try.checked) false ⟨#[], #[.int .i64 0, .int .i64 0], []⟩ 8 (by kernel_rfl) (by kernel_rfl) (by kernel_rfl) (by kernel_rfl)) ?_
  intro W base args ds gs before hval0 hW hcnd _
  have hval : ∀ (j : Nat) t v, Try.f6.params[j]? = some t → args[j]? = some v → Value.okWide Try.prog W .any base t v := hval0
  have hW' := hW
  obtain ⟨p, q, hA0, hV, rfl, hfz, hnd⟩ := hW
  have hA : DataW.TrodAll enc Try.prog W 0 (fun _ => true) true Try.f6.params.toList args.toList ds p := hA0
  rw [Try.params6] at hA hval
  obtain ⟨v0, vs0, d0, ds0, p0, q0, hargs, rfl, rfl, h0, r0⟩ := trodAll_cons hA
  obtain ⟨v1, vs1, d1, ds1, p1, q1, rfl, rfl, rfl, h1, r1⟩ := trodAll_cons r0
  obtain ⟨rfl, rfl, rfl⟩ := trodAll_nil r1
  obtain rfl : args = #[v0, v1] := by cases args; simp_all
  obtain ⟨rfl, rfl⟩ := trodVars_none hV
  obtain ⟨a0, rfl, rfl, rfl, w0⟩ := open_int Try.underlying3 (hval 0 3 v0 rfl rfl) h0
  obtain ⟨a1, rfl, rfl, rfl, w1⟩ := open_int Try.underlying3 (hval 1 3 v1 rfl rfl) h1
  clear hA0 hval0
  simp only [List.append_nil] at hW'
  refine (walk a0 a1 w0 w1 W).mono fun e W' ⟨he, bel⟩ => ?_
  subst he
  exact ⟨_, rfl, _, _, _, [], [], [], hW', trodAll_mk1 (shut_bool Try.underlying4 _), (trodAll_cons_mk (shut_int Try.underlying3 w0) (trodAll_cons_mk (shut_int Try.underlying3 w1) trodAll_mk0)), rfl, bel.frame _, fun h => by cases h⟩

theorem over : Rows.codeIntsRow.holds Try.pinned (OpenSpec.ofChange Rows.codeIntsSpec) :=
  OpenClaim.holds_of_wide 6 Try.f6 rfl rfl rfl rfl rfl rfl rfl ⟨rfl, rfl, rfl, rfl, rfl⟩ rfl rfl rfl rfl rfl (by kernel_rfl) Try.func6 (by kernel_rfl)
    (of_decide_eq_true (by kernel_rfl)) (by unfold Func.isWrapper; first | (rw [if_pos (by decide +kernel)]; kernel_rfl) | (rw [if_neg (by decide +kernel)]; exact ⟨rfl, rfl⟩))
    (fun os started H enc _ => lifted os started H enc)

end Go.Proofs.Ythadgekojenpjaa.codeInts

namespace Go.Proofs.Ythadgekojenpjaa
/-- Proved: for every two ints, CodeInts answers true (ints come back, unlike ones are unlike bytes, the nearer to 0 the fewer bytes). -/
theorem codeInts_holds : Rows.CodeIntsSaid := codeInts.over
#print axioms codeInts_holds
end Go.Proofs.Ythadgekojenpjaa
