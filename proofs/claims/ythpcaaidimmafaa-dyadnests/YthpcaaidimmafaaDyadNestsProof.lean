/- Proved: for every two intervals and every number of levels, DyadNests answers true (of two intervals of so many levels one has all cells of the other one, or they have none in common).
  The frame is the guide's own shell (proof-skeleton.mjs) at this function; the walk and all ahead of it are mine. -/
import Derived.Test.YthpcaaidimmafaaRows
import Derived.Test.YthpcaaidimmafaaDyCov2
import Derived.Test.YthpcaaidimmafaaDyRow
import Derived.WalkKit
import Derived.WalkLawsBesides
import Derived.ProofKit
import Derived.OpenShut
import Derived.ShutString
import Derived.ChangeOld
import Derived.Below
namespace Go.Proofs.Ythpcaaidimmafaa.dyadNests
open Go.ChangeShapes Go.WideShapes Go.ChangeAt Go.RowKit
open Go.ChangeMaps (open_string shut_string)
set_option linter.unusedVariables false

theorem own : ownKnob Try.prog.godebug = none := by kernel_rfl
theorem laidOut : laidOutB Try.prog = true := by kernel_rfl


/-- The two boxes behind a call. -/
theorem boxes {w w1 : World} {a b c d : Value} {t : TypeId} {B : Nat} (hB : w.heap.size + 2 ≤ B) (hb : Below B ((w.alloc (.cells #[a, b] t)).alloc (.cells #[c, d] t)) w1) :
    w1.cell? ⟨w.heap.size, 0, none⟩ = some a ∧ w1.cell? ⟨w.heap.size, 1, none⟩ = some b ∧ w1.cell? ⟨w.heap.size + 1, 0, none⟩ = some c ∧ w1.cell? ⟨w.heap.size + 1, 1, none⟩ = some d := by
  refine ⟨?_, ?_, ?_, ?_⟩
  · rw [hb.cell (p := ⟨w.heap.size, 0, none⟩) (by simp; omega)]; simp
  · rw [hb.cell (p := ⟨w.heap.size, 1, none⟩) (by simp; omega)]; simp
  · rw [hb.cell (p := ⟨w.heap.size + 1, 0, none⟩) (by simp; omega)]; simp
  · rw [hb.cell (p := ⟨w.heap.size + 1, 1, none⟩) (by simp; omega)]; simp
/-! ### STEP 1: the walk -/
set_option maxRecDepth 100000 in
set_option maxHeartbeats 2000000 in
theorem walk (a0 : Iv) (a1 : Iv) (a2 : Int) (w : World) (w0 : a0.ok) (w1 : a1.ok) (w2 : (Lit.int .i64 a2).wf = true) :
    Calls Try.prog 8 #[.agg #[.int .i64 a0.lev, .int .i64 a0.idx], .agg #[.int .i64 a1.lev, .int .i64 a1.idx], .int .i64 a2] w fun e w' => e = .returned (.bool true) ∧ Below w.heap.size w w' := by
  clear w0 w1 w2
  have hx := fun W => cells_any a0 a2 W
  have hy := fun W => cells_any a1 a2 W
  have HX : Hid _ := hx
  have HY : Hid _ := hy
  have HE : Hid (a0.good a2 → a1.good a2 → a0.lst a2 < a1.fst a2 ∨ a1.lst a2 < a0.fst a2 ∨ (a0.fst a2 ≤ a1.fst a2 ∧ a1.lst a2 ≤ a0.lst a2) ∨ (a1.fst a2 ≤ a0.fst a2 ∧ a0.lst a2 ≤ a1.lst a2)) := fun h1 h2 => Iv.nest h1 h2
  have HN : Hid ((¬ a0.good a2 → a0.lst a2 = -1) ∧ (¬ a1.good a2 → a1.lst a2 = -1)) := ⟨fun h => if_neg h, fun h => if_neg h⟩
  have gx := fun (h : a0.good a2) W => good_yes a0 a2 W h
  have gy := fun (h : a1.good a2) W => good_yes a1 a2 W h
  have nx := fun (h : ¬ a0.good a2) W => good_no a0 a2 W h
  have ny := fun (h : ¬ a1.good a2) W => good_no a1 a2 W h
  have GX : Hid _ := gx
  have GY : Hid _ := gy
  have NX : Hid _ := nx
  have NY : Hid _ := ny
  clear hx hy gx gy nx ny
  generalize a0.fst a2 = A at *
  generalize a0.lst a2 = B at *
  generalize a1.fst a2 = C at *
  generalize a1.lst a2 = D at *
  go_enter Try.func8, Try.ntmps8
  go_wp2_with fail
  refine Calls.mono (HX.out _) ?_
  rintro e w1 ⟨rfl, hb1⟩
  obtain ⟨c0, c1, c2, c3⟩ := boxes (by simp) hb1
  have hz1 : w.heap.size + 1 < w1.heap.size := by have := hb1.size; simp at this; omega
  have hz1' : w.heap.size < w1.heap.size := by omega
  have HB1 : Hid (Below w.heap.size w w1) := (dbel2 w _ _).trans (hb1.mono (by simp; omega))
  clear hb1
  go_wp2_with fail
  refine Calls.mono (HY.out _) ?_
  rintro e w2 ⟨rfl, hb2⟩
  have k0 := (hb2.cell (p := ⟨w.heap.size, 0, none⟩) hz1').trans c0
  have k1 := (hb2.cell (p := ⟨w.heap.size, 1, none⟩) hz1').trans c1
  have k2 := (hb2.cell (p := ⟨w.heap.size + 1, 0, none⟩) hz1).trans c2
  have k3 := (hb2.cell (p := ⟨w.heap.size + 1, 1, none⟩) hz1).trans c3
  have hz2 : w.heap.size + 1 < w2.heap.size := Nat.lt_of_lt_of_le hz1 hb2.size
  have hz2' : w.heap.size < w2.heap.size := by omega
  have HB2 : Hid (Below w.heap.size w w2) := HB1.out.trans (hb2.mono HB1.out.size)
  clear hb2 c0 c1 c2 c3 hz1 hz1'
  by_cases hgx : a0.good a2
  · by_cases hgy : a1.good a2
    · have HG : Hid (B < C ∨ D < A ∨ (A ≤ C ∧ D ≤ B) ∨ (C ≤ A ∧ B ≤ D)) := HE.out hgx hgy
      have QX : Hid _ := GX.out hgx
      have QY : Hid _ := GY.out hgy
      clear hgx hgy
      go_wp2_with fail
      refine Calls.mono (QX.out _) ?_
      rintro e w3 ⟨rfl, hb3⟩
      have m2 := (hb3.cell (p := ⟨w.heap.size + 1, 0, none⟩) hz2).trans k2
      have m3 := (hb3.cell (p := ⟨w.heap.size + 1, 1, none⟩) hz2).trans k3
      have hz3 : w.heap.size + 1 < w3.heap.size := Nat.lt_of_lt_of_le hz2 hb3.size
      have HB3 : Hid (Below w.heap.size w w3) := HB2.out.trans (hb3.mono HB2.out.size)
      clear hb3 k0 k1 k2 k3
      go_wp2_with fail
      refine Calls.mono (QY.out _) ?_
      rintro e w4 ⟨rfl, hb4⟩
      have HB4 : Hid (Below w.heap.size w w4) := HB3.out.trans (hb4.mono HB3.out.size)
      clear hb4 m2 m3
      by_cases s1 : B < C
      · go_wp2_with fail
        refine (awake7_any _).mono ?_
        rintro e w5 ⟨rfl, hb5⟩
        have HB5 : Hid (Below w.heap.size w w5) := HB4.out.trans (hb5.mono HB4.out.size)
        clear hb5
        go_wp2
        go_ret
        exact ⟨rfl, HB5.out⟩
      · by_cases s2 : D < A
        · go_wp2_with fail
          refine (awake7_any _).mono ?_
          rintro e w5 ⟨rfl, hb5⟩
          have HB5 : Hid (Below w.heap.size w w5) := HB4.out.trans (hb5.mono HB4.out.size)
          clear hb5
          go_wp2
          go_ret
          exact ⟨rfl, HB5.out⟩
        · by_cases s3 : A ≤ C ∧ D ≤ B
          · obtain ⟨s4, s5⟩ := s3
            go_wp2_with fail
            refine (awake7_any _).mono ?_
            rintro e w5 ⟨rfl, hb5⟩
            have HB5 : Hid (Below w.heap.size w w5) := HB4.out.trans (hb5.mono HB4.out.size)
            clear hb5
            go_wp2
            go_ret
            exact ⟨rfl, HB5.out⟩
          · obtain ⟨s4, s5⟩ : C ≤ A ∧ B ≤ D := by
              rcases HG.out with h | h | h | h
              · exact absurd h s1
              · exact absurd h s2
              · exact absurd h s3
              · exact h
            by_cases s6 : A ≤ C
            all_goals
              go_wp2_with fail
              refine (awake7_any _).mono ?_
              rintro e w5 ⟨rfl, hb5⟩
              have HB5 : Hid (Below w.heap.size w w5) := HB4.out.trans (hb5.mono HB4.out.size)
              clear hb5
              go_wp2
              go_ret
              exact ⟨rfl, HB5.out⟩
    · have hD : D = -1 := HN.out.2 hgy
      have QX : Hid _ := GX.out hgx
      have QY : Hid _ := NY.out hgy
      clear hgx hgy
      go_wp2_with fail
      refine Calls.mono (QX.out _) ?_
      rintro e w3 ⟨rfl, hb3⟩
      have m0 := (hb3.cell (p := ⟨w.heap.size, 0, none⟩) hz2').trans k0
      have m1 := (hb3.cell (p := ⟨w.heap.size, 1, none⟩) hz2').trans k1
      have m2 := (hb3.cell (p := ⟨w.heap.size + 1, 0, none⟩) hz2).trans k2
      have m3 := (hb3.cell (p := ⟨w.heap.size + 1, 1, none⟩) hz2).trans k3
      have hz3 : w.heap.size + 1 < w3.heap.size := Nat.lt_of_lt_of_le hz2 hb3.size
      have hz3' : w.heap.size < w3.heap.size := by omega
      have HB3 : Hid (Below w.heap.size w w3) := HB2.out.trans (hb3.mono HB2.out.size)
      clear hb3 k0 k1 k2 k3
      go_wp2_with fail
      refine Calls.mono (QY.out _) ?_
      rintro e w4 ⟨rfl, hb4⟩
      have n0 := (hb4.cell (p := ⟨w.heap.size, 0, none⟩) hz3').trans m0
      have n1 := (hb4.cell (p := ⟨w.heap.size, 1, none⟩) hz3').trans m1
      have n2 := (hb4.cell (p := ⟨w.heap.size + 1, 0, none⟩) hz3).trans m2
      have n3 := (hb4.cell (p := ⟨w.heap.size + 1, 1, none⟩) hz3).trans m3
      have hz4 : w.heap.size + 1 < w4.heap.size := Nat.lt_of_lt_of_le hz3 hb4.size
      have hz4' : w.heap.size < w4.heap.size := by omega
      have HB4 : Hid (Below w.heap.size w w4) := HB3.out.trans (hb4.mono HB3.out.size)
      clear hb4 m0 m1 m2 m3
      go_wp2_with fail
      refine (awake7_any _).mono ?_
      rintro e w5 ⟨rfl, hb5⟩
      have p0 := (hb5.cell (p := ⟨w.heap.size, 0, none⟩) hz4').trans n0
      have p1 := (hb5.cell (p := ⟨w.heap.size, 1, none⟩) hz4').trans n1
      have p2 := (hb5.cell (p := ⟨w.heap.size + 1, 0, none⟩) hz4).trans n2
      have p3 := (hb5.cell (p := ⟨w.heap.size + 1, 1, none⟩) hz4).trans n3
      have hz5 : w.heap.size + 1 < w5.heap.size := Nat.lt_of_lt_of_le hz4 hb5.size
      have HB5 : Hid (Below w.heap.size w w5) := HB4.out.trans (hb5.mono HB4.out.size)
      clear hb5 n0 n1 n2 n3
      go_wp2_with fail
      refine Calls.mono (QX.out _) ?_
      rintro e w6 ⟨rfl, hb6⟩
      have q2 := (hb6.cell (p := ⟨w.heap.size + 1, 0, none⟩) hz5).trans p2
      have q3 := (hb6.cell (p := ⟨w.heap.size + 1, 1, none⟩) hz5).trans p3
      have hz6 : w.heap.size + 1 < w6.heap.size := Nat.lt_of_lt_of_le hz5 hb6.size
      have HB6 : Hid (Below w.heap.size w w6) := HB5.out.trans (hb6.mono HB5.out.size)
      clear hb6 p0 p1 p2 p3
      go_wp2_with fail
      refine Calls.mono (QY.out _) ?_
      rintro e w7 ⟨rfl, hb7⟩
      have HB7 : Hid (Below w.heap.size w w7) := HB6.out.trans (hb7.mono HB6.out.size)
      clear hb7 q2 q3
      go_wp2
      go_ret
      exact ⟨rfl, HB7.out⟩
  · have hB : B = -1 := HN.out.1 hgx
    have QX : Hid _ := NX.out hgx
    clear hgx
    go_wp2_with fail
    refine Calls.mono (QX.out _) ?_
    rintro e w3 ⟨rfl, hb3⟩
    have m0 := (hb3.cell (p := ⟨w.heap.size, 0, none⟩) hz2').trans k0
    have m1 := (hb3.cell (p := ⟨w.heap.size, 1, none⟩) hz2').trans k1
    have m2 := (hb3.cell (p := ⟨w.heap.size + 1, 0, none⟩) hz2).trans k2
    have m3 := (hb3.cell (p := ⟨w.heap.size + 1, 1, none⟩) hz2).trans k3
    have hz3 : w.heap.size + 1 < w3.heap.size := Nat.lt_of_lt_of_le hz2 hb3.size
    have hz3' : w.heap.size < w3.heap.size := by omega
    have HB3 : Hid (Below w.heap.size w w3) := HB2.out.trans (hb3.mono HB2.out.size)
    clear hb3 k0 k1 k2 k3
    go_wp2_with fail
    refine (awake7_any _).mono ?_
    rintro e w4 ⟨rfl, hb4⟩
    have n0 := (hb4.cell (p := ⟨w.heap.size, 0, none⟩) hz3').trans m0
    have n1 := (hb4.cell (p := ⟨w.heap.size, 1, none⟩) hz3').trans m1
    have n2 := (hb4.cell (p := ⟨w.heap.size + 1, 0, none⟩) hz3).trans m2
    have n3 := (hb4.cell (p := ⟨w.heap.size + 1, 1, none⟩) hz3).trans m3
    have hz4 : w.heap.size + 1 < w4.heap.size := Nat.lt_of_lt_of_le hz3 hb4.size
    have HB4 : Hid (Below w.heap.size w w4) := HB3.out.trans (hb4.mono HB3.out.size)
    clear hb4 m0 m1 m2 m3
    go_wp2_with fail
    refine Calls.mono (QX.out _) ?_
    rintro e w5 ⟨rfl, hb5⟩
    have p2 := (hb5.cell (p := ⟨w.heap.size + 1, 0, none⟩) hz4).trans n2
    have p3 := (hb5.cell (p := ⟨w.heap.size + 1, 1, none⟩) hz4).trans n3
    have hz5 : w.heap.size + 1 < w5.heap.size := Nat.lt_of_lt_of_le hz4 hb5.size
    have HB5 : Hid (Below w.heap.size w w5) := HB4.out.trans (hb5.mono HB4.out.size)
    clear hb5 n0 n1 n2 n3
    by_cases hgy : a1.good a2
    · have QY : Hid _ := GY.out hgy
      clear hgy
      go_wp2_with fail
      refine Calls.mono (QY.out _) ?_
      rintro e w7 ⟨rfl, hb7⟩
      have HB7 : Hid (Below w.heap.size w w7) := HB5.out.trans (hb7.mono HB5.out.size)
      clear hb7
      go_wp2
      go_ret
      exact ⟨rfl, HB7.out⟩
    · have hD : D = -1 := HN.out.2 hgy
      have QY : Hid _ := NY.out hgy
      clear hgy
      go_wp2_with fail
      refine Calls.mono (QY.out _) ?_
      rintro e w7 ⟨rfl, hb7⟩
      have HB7 : Hid (Below w.heap.size w w7) := HB5.out.trans (hb7.mono HB5.out.size)
      clear hb7
      go_wp2
      go_ret
      exact ⟨rfl, HB7.out⟩

/-! ### The row's step -/
set_option maxRecDepth 100000 in
theorem lifted (os : Os) (started : os.Started) (H : Type) (enc : TypeId × Value → H) :
    ReturnsInHanded {} Try.checked os 8 .any (Rows.dyadNestsSpec.pre6 enc Try.prog Try.f8 Rows.dyadNestsRow.domain false) (Rows.dyadNestsSpec.post enc Try.prog Try.f8 false true false false) := by
  refine returnsInHanded_of_change (C := Try.checked) own started (by kernel_rfl) Try.func8
    (ChangeSpec.witness6 (enc := enc) (C := Try.checked) false ⟨#[], #[.agg #[.int .i64 0, .int .i64 0], .agg #[.int .i64 0, .int .i64 0], .int .i64 0], []⟩ 8 (by kernel_rfl) (by kernel_rfl) (by kernel_rfl) (by kernel_rfl)) ?_
  intro W base args ds gs before hval0 hW hcnd _
  have hval : ∀ (j : Nat) t v, Try.f8.params[j]? = some t → args[j]? = some v → Value.okWide Try.prog W .any base t v := hval0
  have hW' := hW
  obtain ⟨p, q, hA0, hV, rfl, hfz, hnd⟩ := hW
  have hA : DataW.TrodAll enc Try.prog W 0 (fun _ => true) true Try.f8.params.toList args.toList ds p := hA0
  rw [Try.params8] at hA hval
  obtain ⟨v0, vs0, d0, ds0, p0, q0, hargs, rfl, rfl, h0, r0⟩ := trodAll_cons hA
  obtain ⟨v1, vs1, d1, ds1, p1, q1, rfl, rfl, rfl, h1, r1⟩ := trodAll_cons r0
  obtain ⟨v2, vs2, d2, ds2, p2, q2, rfl, rfl, rfl, h2, r2⟩ := trodAll_cons r1
  obtain ⟨rfl, rfl, rfl⟩ := trodAll_nil r2
  obtain rfl : args = #[v0, v1, v2] := by cases args; simp_all
  obtain ⟨rfl, rfl⟩ := trodVars_none hV
  obtain ⟨cs0, rfl, hcs0⟩ := okWide_struct Try.underlying23 (hval 0 23 v0 rfl rfl)
  have k0 := h0
  have lt0 : ∀ x ∈ p0, x.block < W.heap.size := by obtain ⟨m, hm⟩ := k0; exact DataW.trod_lt m _ _ _ hm
  obtain ⟨fuel0, hf0⟩ := h0
  obtain ⟨a0, rfl, w0⟩ := iv_one hcs0 hf0
  obtain ⟨cs1, rfl, hcs1⟩ := okWide_struct Try.underlying23 (hval 1 23 v1 rfl rfl)
  have k1 := h1
  have lt1 : ∀ x ∈ p1, x.block < W.heap.size := by obtain ⟨m, hm⟩ := k1; exact DataW.trod_lt m _ _ _ hm
  obtain ⟨fuel1, hf1⟩ := h1
  obtain ⟨a1, rfl, w1⟩ := iv_one hcs1 hf1
  obtain ⟨a2, rfl, rfl, rfl, w2⟩ := open_int Try.underlying3 (hval 2 3 v2 rfl rfl) h2
  clear hA0 hval0
  refine (walk a0 a1 a2 W w0 w1 w2).mono fun e W' ⟨he, bel⟩ => ?_
  subst he
  exact ⟨_, rfl, _, _, _, [], _, [], hW', trodAll_mk1 (shut_bool Try.underlying4 _), (trodAll_cons_mk (Below.trod laidOut (by kernel_rfl) (of_decide_eq_true (by kernel_rfl)) k0 bel lt0) (trodAll_cons_mk (Below.trod laidOut (by kernel_rfl) (of_decide_eq_true (by kernel_rfl)) k1 bel lt1) (trodAll_cons_mk (shut_int Try.underlying3 w2) trodAll_mk0))), rfl, bel.frame _, fun h => by cases h⟩

theorem over : Rows.dyadNestsRow.holds Try.pinned (OpenSpec.ofChange Rows.dyadNestsSpec) :=
  OpenClaim.holds_of_wide 8 Try.f8 rfl rfl rfl rfl rfl rfl rfl ⟨rfl, rfl, rfl, rfl, rfl⟩ rfl rfl rfl rfl rfl (by kernel_rfl) Try.func8 (by kernel_rfl)
    (of_decide_eq_true (by kernel_rfl)) (by unfold Func.isWrapper; first | (rw [if_pos (by decide +kernel)]; kernel_rfl) | (rw [if_neg (by decide +kernel)]; exact ⟨rfl, rfl⟩))
    (fun os started H enc _ => lifted os started H enc)

end Go.Proofs.Ythpcaaidimmafaa.dyadNests

namespace Go.Proofs.Ythpcaaidimmafaa
/-- Proved: for every two intervals and every number of levels, DyadNests answers true (of two intervals of so many levels one has all cells of the other one, or they have none in common). -/
theorem dyadNests_holds : Rows.DyadNestsSaid := dyadNests.over
#print axioms dyadNests_holds
end Go.Proofs.Ythpcaaidimmafaa
