/- Proved: for every text, CodeOne answers true (bytes that are read as one number are its bytes: there is one spelling).
  The frame is the guide's own shell (proof-skeleton.mjs) at this function; the walk and all ahead of it are mine. -/
import Derived.Test.YthadgekojenpjaaRows
import Derived.Test.YthadgekojenpjaaAid
import Derived.Test.YthadgekojenpjaaCodeMath
import Derived.Test.YthadgekojenpjaaOwnSrc
import Derived.Test.YthadgekojenpjaaCodeW
import Derived.Test.YthadgekojenpjaaCodeR
import Derived.Test.YthadgekojenpjaaCodeR2
import Derived.Test.YthadgekojenpjaaCodeIs
import Derived.Test.YthadgekojenpjaaCodeAwake
import Derived.Test.YthadgekojenpjaaCodeUse
import Derived.Test.YthadgekojenpjaaCut
import Derived.WalkKit
import Derived.WalkLawsBesides
import Derived.ProofKit
import Derived.OpenShut
import Derived.ShutString
namespace Go.Proofs.Ythadgekojenpjaa.codeOne
open Go.ChangeShapes Go.WideShapes Go.ChangeAt Go.RowKit
open Go.ChangeMaps (open_string shut_string)
set_option linter.unusedVariables false      -- a walk need not use every 'w<i>' (that an integer argument fits its kind)

theorem own : ownKnob Try.prog.godebug = none := by kernel_rfl


theorem one_take (L : List UInt8) (n k : Nat) (h : rdNum 0 0 L = (n, k, 0)) (hk : ¬ k < L.length) : numB n = L := by
  obtain ⟨m, h1, _, h3, _⟩ := rd_one 0 0 L (by omega) (by rw [h])
  rw [h] at h1 h3
  simp at h1
  subst h1
  rw [← h3]; exact List.take_of_length_le (by simp; omega)
/-! ### STEP 1: THE WALK: the Go text returns true. 'Grown w w'': the world has at most new blocks (Derived/RowKit3.lean). Part the cases AHEAD of 'go_enter' where a test parts the walk; take each callee by a contract of your own. -/
theorem walk (a0 : ByteArray) (w0 : a0.size ≤ maxLen) (w : World) :
    Calls Try.prog 5 #[.string a0] w fun e w' => e = .returned (.bool true) ∧ Below w.heap.size w w' := by
  have hc := cut_size a0 40
  obtain ⟨t, ht⟩ : ∃ t, t = cut a0 40 := ⟨_, rfl⟩
  have HC : Hid (t = cut a0 40) := ht
  rw [← ht] at hc
  clear ht
  obtain ⟨n, k, cd, hr⟩ : ∃ n k cd, rdNum 0 0 (t.data.toList.drop 0) = (n, k, cd) := ⟨_, _, _, rfl⟩
  have hlt := rd_lt _ n k cd hr
  have hk : k ≤ t.size := by
    have := rd_taken 0 0 (t.data.toList.drop 0)
    rw [hr] at this; simpa using this
  have HR : Hid (rdNum 0 0 (t.data.toList.drop 0) = (n, k, cd)) := hr
  clear hr
  have hR1 := rd_new w t
  have b1 : Below w.heap.size w (w.alloc (.cells #[.string t, .int .i64 0, .int .i64 0] 56)) := (Below.refl _ _).alloc (Nat.le_refl _) _
  go_enter Try.func5, Try.ntmps5
  go_wp2_with fail
  refine (cut_any a0 40 _ w0).mono ?_
  rw [← HC.out]
  rintro e w1 ⟨rfl, rfl⟩
  go_wp2_with fail
  refine (open_any _ _).mono ?_
  rintro e w2 ⟨rfl, hw2⟩
  rw [hw2]
  clear hw2 w2
  go_wp2_with fail
  refine (rnumber_any w1.heap.size t 0 n k cd _ hR1 (Nat.zero_le _) (by omega) HR.out).mono ?_
  rintro e w3 ⟨rfl, hR3, hS3⟩
  rw [Nat.zero_add] at hR3
  have b3 := hS3.adds.below (B := w1.heap.size) (Nat.le_refl _) (by simp) b1
  have s3 := hR3.lt
  clear hS3 b1 hR1
  by_cases hcd : cd = 0
  · subst hcd
    by_cases hks : k < t.size
    · go_wp2_with fail
      refine (done_left w1.heap.size t k _ hR3 hks).mono ?_
      rintro e w4 ⟨g, rfl, hF, hg, hR4, hA4⟩
      have b4 := hA4.below (B := w1.heap.size) (Nat.le_refl _) (by omega) b3
      have s4 := hR4.lt
      clear hF hA4 b3 hR3
      go_wp2_with fail
      refine (cawake_any w4).mono ?_
      rintro e w5 ⟨rfl, hb5⟩
      have hR5 := hR4.below hb5
      have b5 := b4.trans (hb5.mono (by omega))
      clear hR4 b4 hb5
      by_cases hn : ((n : Int) == 0) = true
      · go_wp2
        go_ret
        exact ⟨rfl, b5⟩
      · have hn : ((n : Int) == 0) = false := by simpa using hn
        go_wp2_with fail
        refine (at_any w1.heap.size t _ _ _ hR5).mono ?_
        rintro e w6 ⟨rfl, hw6⟩
        rw [hw6]
        clear hw6 w6
        go_wp2
        go_ret
        exact ⟨rfl, b5⟩
    · have HN : Hid (numB n = t.data.toList) := one_take t.data.toList n k (by have := HR.out; simpa using this) (by simpa using hks)
      go_wp2_with fail
      refine (done_nil w1.heap.size t k _ hR3 hks).mono ?_
      rintro e w4 ⟨rfl, hR4, hA4⟩
      have b4 := hA4.below (B := w1.heap.size) (Nat.le_refl _) (by omega) b3
      have s4 := hR4.lt
      have hW4 := wr_new w1.heap.size w4 (by omega)
      have b4' := b4.alloc (by omega) (.cells #[.slice none 0 0] 25)
      clear hA4 b3 hR3 b4 hR4
      go_wp2_with fail
      refine (wnumber_int w1.heap.size w4.heap.size _ [] n n _ hW4 (by simp; omega) rfl hlt (by simp)).mono ?_
      rintro e w5 ⟨rfl, v5, hW5, hK5⟩
      have b5 := hK5.below hW4 b4' (by simp; omega)
      have s5 := hW5.lt
      rw [List.nil_append] at hW5
      clear hK5 hW4 b4'
      go_wp2_with fail
      refine (cawake_any w5).mono ?_
      rintro e w6 ⟨rfl, hb6⟩
      have hW6 := hW5.below hb6
      have b6 := b5.trans (hb6.mono (by omega))
      clear hW5 b5 hb6
      go_wp2_with fail
      refine (bytes_any w1.heap.size w4.heap.size v5 _ w6 hW6).mono ?_
      rintro e w7 ⟨rfl, hw7⟩
      rw [hw7]
      clear hw7 w7
      go_wp2
      go_ret
      exact ⟨ret_b (by rw [HN.out, ByteArray.toList_eq]; simp), b6⟩
  · have hn0 : n = 0 := by
      have := rd_err 0 0 (t.data.toList.drop 0) (by rw [HR.out]; exact hcd)
      rw [HR.out] at this; exact this
    have hn : ((n : Int) == 0) = true := beq_iff_eq.2 (by omega)
    clear hn0
    go_wp2_with fail
    refine (done_stuck w1.heap.size t k cd _ hR3 hcd).mono ?_
    rintro e w4 ⟨g, rfl, hF, hg, hR4, hA4⟩
    have b4 := hA4.below (B := w1.heap.size) (Nat.le_refl _) (by omega) b3
    have s4 := hR4.lt
    clear hF hA4 b3 hR3
    go_wp2_with fail
    refine (cawake_any w4).mono ?_
    rintro e w5 ⟨rfl, hb5⟩
    have b5 := b4.trans (hb5.mono (by omega))
    clear hR4 b4 hb5
    go_wp2
    go_ret
    exact ⟨rfl, b5⟩

/-! ### THE ROW's STEP: WRITTEN OUT: LEAVE IT -/
set_option maxRecDepth 100000 in
theorem lifted (os : Os) (started : os.Started) (H : Type) (enc : TypeId × Value → H) :
    ReturnsInHanded {} Try.checked os 5 .any (Rows.codeOneSpec.pre6 enc Try.prog Try.f5 Rows.codeOneRow.domain false) (Rows.codeOneSpec.post enc Try.prog Try.f5 false true false false) := by
  refine returnsInHanded_of_change (C := Try.checked) own started (by kernel_rfl) Try.func5
    (ChangeSpec.witness6 (enc := enc) (C := Try.checked) false ⟨#[], #[.string ByteArray.empty], []⟩ 8 (by kernel_rfl) (by kernel_rfl) (by kernel_rfl) (by kernel_rfl)) ?_
  intro W base args ds gs before hval0 hW hcnd _
  have hval : ∀ (j : Nat) t v, Try.f5.params[j]? = some t → args[j]? = some v → Value.okWide Try.prog W .any base t v := hval0
  have hW' := hW
  obtain ⟨p, q, hA0, hV, rfl, hfz, hnd⟩ := hW
  have hA : DataW.TrodAll enc Try.prog W 0 (fun _ => true) true Try.f5.params.toList args.toList ds p := hA0
  rw [Try.params5] at hA hval
  obtain ⟨v0, vs0, d0, ds0, p0, q0, hargs, rfl, rfl, h0, r0⟩ := trodAll_cons hA
  obtain ⟨rfl, rfl, rfl⟩ := trodAll_nil r0
  obtain rfl : args = #[v0] := by cases args; simp_all
  obtain ⟨rfl, rfl⟩ := trodVars_none hV
  obtain ⟨a0, rfl, rfl, rfl, w0⟩ := open_string Try.underlying9 (hval 0 9 v0 rfl rfl) h0
  clear hA0 hval0
  simp only [List.append_nil] at hW'
  refine (walk a0 w0 W).mono fun e W' ⟨he, bel⟩ => ?_
  subst he
  exact ⟨_, rfl, _, _, _, [], [], [], hW', trodAll_mk1 (shut_bool Try.underlying4 _), (trodAll_cons_mk (shut_string Try.underlying9 w0) trodAll_mk0), rfl, bel.frame _, fun h => by cases h⟩

theorem over : Rows.codeOneRow.holds Try.pinned (OpenSpec.ofChange Rows.codeOneSpec) :=
  OpenClaim.holds_of_wide 5 Try.f5 rfl rfl rfl rfl rfl rfl rfl ⟨rfl, rfl, rfl, rfl, rfl⟩ rfl rfl rfl rfl rfl (by kernel_rfl) Try.func5 (by kernel_rfl)
    (of_decide_eq_true (by kernel_rfl)) (by unfold Func.isWrapper; first | (rw [if_pos (by decide +kernel)]; kernel_rfl) | (rw [if_neg (by decide +kernel)]; exact ⟨rfl, rfl⟩))
    (fun os started H enc _ => lifted os started H enc)

end Go.Proofs.Ythadgekojenpjaa.codeOne

namespace Go.Proofs.Ythadgekojenpjaa
/-- Proved: for every text, CodeOne answers true (bytes that are read as one number are its bytes: there is one spelling). -/
theorem codeOne_holds : Rows.CodeOneSaid := codeOne.over
#print axioms codeOne_holds
end Go.Proofs.Ythadgekojenpjaa
