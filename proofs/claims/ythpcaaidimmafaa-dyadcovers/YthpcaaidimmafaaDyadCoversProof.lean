/- Proved: for every range, number of levels and interval, DyadCovers answers true (ranges, cells and intervals are as the page says).
  The frame is the guide's own shell (proof-skeleton.mjs) at this function; the walk and all ahead of it are mine. -/
import Derived.Test.YthpcaaidimmafaaRows
import Derived.Test.YthpcaaidimmafaaDyRef5
import Derived.Test.YthpcaaidimmafaaDyRow
import Derived.OneCell
import Derived.Deep.RegionWith
import Derived.WalkKit
import Derived.WalkLawsBesides
import Derived.ProofKit
import Derived.OpenShut
import Derived.ShutString
import Derived.ChangeOld
import Derived.Below
namespace Go.Proofs.Ythpcaaidimmafaa.dyadCovers
open Go.ChangeShapes Go.WideShapes Go.ChangeAt Go.RowKit
open Go.ChangeMaps (open_string shut_string)
set_option linter.unusedVariables false

theorem own : ownKnob Try.prog.godebug = none := by kernel_rfl
theorem laidOut : laidOutB Try.prog = true := by kernel_rfl


/-- A good interval's first and last cell. -/
theorem two_ends {l i n : Nat} (h1 : l ≤ n) (h2 : n ≤ 8) (h3 : i < 2 ^ l) : ∃ A B P : Nat, 1 ≤ P ∧ P ≤ 256 ∧ A ≤ 256 ∧ B ≤ 256 ∧ B + 1 = A + P ∧ A / P = i ∧ B / P = i ∧ P = 2 ^ (n - l) ∧ i * 2 ^ (n - l) = A ∧ (i + 1) * 2 ^ (n - l) = B + 1 := by
  have hp := pow_pos2 (n - l)
  have hb : (i + 1) * 2 ^ (n - l) ≤ 256 := by
    refine Nat.le_trans (Nat.mul_le_mul_right _ h3) ?_
    rw [← pow_split h1]; exact pow_le_256 h2
  have hpb := pow_le_256 (show n - l ≤ 8 by clear h3 hb; omega)
  rw [Nat.add_mul, Nat.one_mul] at hb ⊢
  generalize 2 ^ (n - l) = P at *
  have e1 : i * P / P = i := Nat.mul_div_cancel _ hp
  have e2 : (i * P + P - 1) / P = i := by
    rw [Nat.div_eq_iff hp]
    generalize i * P = A at *
    omega
  generalize i * P = A at *
  exact ⟨A, A + P - 1, P, hp, hpb, by omega, by omega, by omega, e1, e2, rfl, rfl, by omega⟩
theorem coverOf_len (lo hi L : Int) : (coverOf lo hi L).length ≤ 1000 := by
  unfold coverOf; split
  · rename_i h
    have a := good_cell.1 h.1
    have b := good_cell.1 h.2
    by_cases hl : lo.toNat ≤ hi.toNat
    · have : hi.toNat < 2 ^ L.toNat := by
        have h9 := b.2.2.2
        rw [powI] at h9
        generalize 2 ^ L.toNat = P at *
        omega
      have h8 := cover_few lo.toNat hi.toNat L.toNat hl this
      have : L.toNat ≤ 8 := by omega
      omega
    · rw [cover_end _ _ _ (by omega)]; simp
  · simp
theorem rchainOf_any (c L : Int) (w : World) :
    Calls Try.prog 18 #[.int .i64 c, .int .i64 L] w fun e w' => ∃ v, e = .returned v ∧ IvRow 27 w w' v (chainOf c L) := by
  by_cases h : (Iv.mk L c).good L
  · obtain ⟨l, k, n, e, rfl, h1, h2, h3⟩ := Iv.good_nat h
    have e1 : ((n : Nat) : Int) = l := congrArg Iv.lev e
    have e2 : c = k := congrArg Iv.idx e
    obtain rfl : n = l := by clear h3; omega
    subst e2
    rw [chainOf_nat h2 h3]
    exact rchain_yes k n w h2 h3
  · have e : chainOf c L = [] := if_neg h
    rw [e]
    exact rchain_no c L w h
/-! ### STEP 1: the walk -/
set_option maxRecDepth 100000 in
set_option maxHeartbeats 2000000 in
theorem walk (a0 : Int) (a1 : Int) (a2 : Int) (a3 : Iv) (w : World) (w0 : (Lit.int .i64 a0).wf = true) (w1 : (Lit.int .i64 a1).wf = true) (w2 : (Lit.int .i64 a2).wf = true) (w3 : a3.ok) :
    Calls Try.prog 3 #[.int .i64 a0, .int .i64 a1, .int .i64 a2, .agg #[.int .i64 a3.lev, .int .i64 a3.idx]] w fun e w' => e = .returned (.bool true) ∧ Below w.heap.size w w' := by
  clear w0 w1 w2 w3
  have HG : Hid _ := fun W => good_any a3 a2 W
  have HRG : Hid _ := fun W => rgood_any a3 a2 W
  have HCH : Hid _ := fun W => chainOf_any a0 a2 W
  have HRC : Hid _ := fun W => rchainOf_any a0 a2 W
  have HCV : Hid _ := fun W => coverOf_any a0 a1 a2 W
  have HRV : Hid _ := fun W => rcover_any a0 a1 a2 W
  have hl1 := chainOf_len a0 a2
  have hl2 := coverOf_len a0 a1 a2
  generalize chainOf a0 a2 = xs at *
  generalize coverOf a0 a1 a2 = ys at *
  by_cases hgd : a3.good a2
  · obtain ⟨l, i, n, rfl, rfl, h1, h2, h3⟩ := Iv.good_nat hgd
    obtain ⟨A, B, P, p1, p2, p3, p4, p5, p6, p7, p8, p9, pa⟩ := two_ends h1 h2 h3
    have HC := fun W => cells_yes l i n W h1 h2 h3
    rw [p9, pa] at HC
    rw [show (((B + 1 : Nat) : Int) - 1) = (B : Int) by clear h3; omega] at HC
    have HC : Hid _ := HC
    have HA := fun W => rhas_any l i A n W h1 h2 (by clear h3; omega)
    have HBB := fun W => rhas_any l i B n W h1 h2 (by clear h3; omega)
    rw [← p8, p6, decide_eq_true (rfl : i = i)] at HA
    rw [← p8, p7, decide_eq_true (rfl : i = i)] at HBB
    have HA : Hid _ := HA
    have HBB : Hid _ := HBB
    have HP := fun W => power_any (n - l) W (by clear h3; omega)
    rw [← p8, show ((n - l : Nat) : Int) = (n : Int) - (l : Int) by clear h3; omega] at HP
    have HP : Hid _ := HP
    rw [show (Iv.mk l i).goodB n = true from decide_eq_true hgd] at HG HRG
    have t3 : (((B : Int) - (A : Int) + 1) != (P : Int)) = false := by simp; omega
    have t4 : (B : Int) - (A : Int) + 1 = (P : Int) := by omega
    clear hgd p6 p7 p8 p9 pa h3
    go_enter Try.func3, Try.ntmps3
    go_wp2_with fail
    refine Calls.mono (HC.out _) ?_
    rintro e W1 ⟨rfl, b1⟩
    have c0 := b1.cell (p := ⟨w.heap.size, 0, none⟩) (by simp)
    have c1 := b1.cell (p := ⟨w.heap.size, 1, none⟩) (by simp)
    simp at c0 c1
    have B1 : Hid (Below w.heap.size w W1) := (dbel1 w _).trans (b1.mono (by simp))
    have l1 : w.heap.size < W1.heap.size := by have := b1.size; simp at this; omega
    clear b1
    go_wp2_with fail
    refine Calls.mono (HRG.out _) ?_
    rintro e W2 ⟨rfl, b2⟩
    have d0 := (b2.cell (p := ⟨w.heap.size, 0, none⟩) l1).trans c0
    have d1 := (b2.cell (p := ⟨w.heap.size, 1, none⟩) l1).trans c1
    have B2 : Hid (Below w.heap.size w W2) := B1.out.trans (b2.mono B1.out.size)
    have l2 : w.heap.size < W2.heap.size := Nat.lt_of_lt_of_le l1 b2.size
    clear b2 c0 c1
    go_wp2_with fail
    refine (awake7_any _).mono ?_
    rintro e W3 ⟨rfl, b3⟩
    have e0 := (b3.cell (p := ⟨w.heap.size, 0, none⟩) l2).trans d0
    have e1 := (b3.cell (p := ⟨w.heap.size, 1, none⟩) l2).trans d1
    have B3 : Hid (Below w.heap.size w W3) := B2.out.trans (b3.mono B2.out.size)
    have l3 : w.heap.size < W3.heap.size := Nat.lt_of_lt_of_le l2 b3.size
    clear b3 d0 d1
    go_wp2_with fail
    refine Calls.mono (HG.out _) ?_
    rintro e Wx ⟨rfl, bx⟩
    have f0 := (bx.cell (p := ⟨w.heap.size, 0, none⟩) l3).trans e0
    have f1 := (bx.cell (p := ⟨w.heap.size, 1, none⟩) l3).trans e1
    have Bx : Hid (Below w.heap.size w Wx) := B3.out.trans (bx.mono B3.out.size)
    have lx : w.heap.size < Wx.heap.size := Nat.lt_of_lt_of_le l3 bx.size
    clear bx e0 e1
    go_wp2_with fail
    refine Calls.mono (HA.out _) ?_
    rintro e Wy ⟨rfl, b_y⟩
    have g0 := (b_y.cell (p := ⟨w.heap.size, 0, none⟩) lx).trans f0
    have g1 := (b_y.cell (p := ⟨w.heap.size, 1, none⟩) lx).trans f1
    have By : Hid (Below w.heap.size w Wy) := Bx.out.trans (b_y.mono Bx.out.size)
    have ly : w.heap.size < Wy.heap.size := Nat.lt_of_lt_of_le lx b_y.size
    clear b_y f0 f1
    go_wp2_with fail
    refine Calls.mono (HBB.out _) ?_
    rintro e Wz ⟨rfl, bz⟩
    have k0 := (bz.cell (p := ⟨w.heap.size, 0, none⟩) ly).trans g0
    have k1 := (bz.cell (p := ⟨w.heap.size, 1, none⟩) ly).trans g1
    have Bz : Hid (Below w.heap.size w Wz) := By.out.trans (bz.mono By.out.size)
    have lz : w.heap.size < Wz.heap.size := Nat.lt_of_lt_of_le ly bz.size
    clear bz g0 g1
    go_wp2_with fail
    refine Calls.mono (HP.out _) ?_
    rintro e W4 ⟨rfl, hw4⟩
    subst W4
    have B4 : Hid (Below w.heap.size w Wz) := Bz.out
    go_wp2_with fail
    refine Calls.mono (HCH.out _) ?_
    rintro e W5 ⟨v5, rfl, r5⟩
    have B5 : Hid (Below w.heap.size w W5) := B4.out.trans (r5.bel.mono B4.out.size)
    have I5 : Hid (IvIn W5 v5 xs) := r5.isIn
    clear r5
    go_wp2_with fail
    refine Calls.mono (told_any _ xs _ I5.out (by omega)) ?_
    rintro e W6 ⟨v6, rfl, r6⟩
    have B6 : Hid (Below w.heap.size w W6) := B5.out.trans (r6.bel.mono B5.out.size)
    have I6 : Hid (IvIn W6 v6 xs) := r6.isIn
    clear r6
    go_wp2_with fail
    refine Calls.mono (HRC.out _) ?_
    rintro e W7 ⟨v7, rfl, r7⟩
    have B7 : Hid (Below w.heap.size w W7) := B6.out.trans (r7.bel.mono B6.out.size)
    have I7 : Hid (IvIn W7 v6 xs) := I6.out.below r7.bel
    have J7 : Hid (IvIn W7 v7 xs) := r7.isIn
    clear r7
    go_wp2_with fail
    refine Calls.mono (rsame_any _ _ xs _ I7.out J7.out (by omega)) ?_
    rintro e W8 ⟨rfl, b8⟩
    have B8 : Hid (Below w.heap.size w W8) := B7.out.trans (b8.mono B7.out.size)
    clear b8
    go_wp2_with fail
    refine Calls.mono (HCV.out _) ?_
    rintro e W9 ⟨v9, rfl, r9⟩
    have B9 : Hid (Below w.heap.size w W9) := B8.out.trans (r9.bel.mono B8.out.size)
    have I9 : Hid (IvIn W9 v9 ys) := r9.isIn
    clear r9
    go_wp2_with fail
    refine Calls.mono (told_any _ ys _ I9.out hl2) ?_
    rintro e Wa ⟨va, rfl, ra⟩
    have Ba : Hid (Below w.heap.size w Wa) := B9.out.trans (ra.bel.mono B9.out.size)
    have Ia : Hid (IvIn Wa va ys) := ra.isIn
    clear ra
    go_wp2_with fail
    refine Calls.mono (HRV.out _) ?_
    rintro e Wb ⟨vb, rfl, rb⟩
    have Bb : Hid (Below w.heap.size w Wb) := Ba.out.trans (rb.bel.mono Ba.out.size)
    have Ib : Hid (IvIn Wb va ys) := Ia.out.below rb.bel
    have Jb : Hid (IvIn Wb vb ys) := rb.isIn
    clear rb
    go_wp2_with fail
    refine Calls.mono (rsame_any _ _ ys _ Ib.out Jb.out hl2) ?_
    rintro e Wc ⟨rfl, bc⟩
    have Bc : Hid (Below w.heap.size w Wc) := Bb.out.trans (bc.mono Bb.out.size)
    clear bc
    go_wp2
    go_ret
    exact ⟨rfl, Bc.out⟩
  · have HC : Hid _ := fun W => cells_no a3 a2 W hgd
    rw [not_good hgd] at HG HRG
    clear hgd
    go_enter Try.func3, Try.ntmps3
    go_wp2_with fail
    refine Calls.mono (HC.out _) ?_
    rintro e W1 ⟨rfl, b1⟩
    have c0 := b1.cell (p := ⟨w.heap.size, 0, none⟩) (by simp)
    have c1 := b1.cell (p := ⟨w.heap.size, 1, none⟩) (by simp)
    simp at c0 c1
    have B1 : Hid (Below w.heap.size w W1) := (dbel1 w _).trans (b1.mono (by simp))
    have l1 : w.heap.size < W1.heap.size := by have := b1.size; simp at this; omega
    clear b1
    go_wp2_with fail
    refine Calls.mono (HRG.out _) ?_
    rintro e W2 ⟨rfl, b2⟩
    have d0 := (b2.cell (p := ⟨w.heap.size, 0, none⟩) l1).trans c0
    have d1 := (b2.cell (p := ⟨w.heap.size, 1, none⟩) l1).trans c1
    have B2 : Hid (Below w.heap.size w W2) := B1.out.trans (b2.mono B1.out.size)
    have l2 : w.heap.size < W2.heap.size := Nat.lt_of_lt_of_le l1 b2.size
    clear b2 c0 c1
    go_wp2_with fail
    refine (awake7_any _).mono ?_
    rintro e W3 ⟨rfl, b3⟩
    have e0 := (b3.cell (p := ⟨w.heap.size, 0, none⟩) l2).trans d0
    have e1 := (b3.cell (p := ⟨w.heap.size, 1, none⟩) l2).trans d1
    have B3 : Hid (Below w.heap.size w W3) := B2.out.trans (b3.mono B2.out.size)
    have l3 : w.heap.size < W3.heap.size := Nat.lt_of_lt_of_le l2 b3.size
    clear b3 d0 d1
    go_wp2_with fail
    refine Calls.mono (HG.out _) ?_
    rintro e W4 ⟨rfl, b4⟩
    have B4 : Hid (Below w.heap.size w W4) := B3.out.trans (b4.mono B3.out.size)
    clear b4 e0 e1
    go_wp2_with fail
    refine Calls.mono (HCH.out _) ?_
    rintro e W5 ⟨v5, rfl, r5⟩
    have B5 : Hid (Below w.heap.size w W5) := B4.out.trans (r5.bel.mono B4.out.size)
    have I5 : Hid (IvIn W5 v5 xs) := r5.isIn
    clear r5
    go_wp2_with fail
    refine Calls.mono (told_any _ xs _ I5.out (by omega)) ?_
    rintro e W6 ⟨v6, rfl, r6⟩
    have B6 : Hid (Below w.heap.size w W6) := B5.out.trans (r6.bel.mono B5.out.size)
    have I6 : Hid (IvIn W6 v6 xs) := r6.isIn
    clear r6
    go_wp2_with fail
    refine Calls.mono (HRC.out _) ?_
    rintro e W7 ⟨v7, rfl, r7⟩
    have B7 : Hid (Below w.heap.size w W7) := B6.out.trans (r7.bel.mono B6.out.size)
    have I7 : Hid (IvIn W7 v6 xs) := I6.out.below r7.bel
    have J7 : Hid (IvIn W7 v7 xs) := r7.isIn
    clear r7
    go_wp2_with fail
    refine Calls.mono (rsame_any _ _ xs _ I7.out J7.out (by omega)) ?_
    rintro e W8 ⟨rfl, b8⟩
    have B8 : Hid (Below w.heap.size w W8) := B7.out.trans (b8.mono B7.out.size)
    clear b8
    go_wp2_with fail
    refine Calls.mono (HCV.out _) ?_
    rintro e W9 ⟨v9, rfl, r9⟩
    have B9 : Hid (Below w.heap.size w W9) := B8.out.trans (r9.bel.mono B8.out.size)
    have I9 : Hid (IvIn W9 v9 ys) := r9.isIn
    clear r9
    go_wp2_with fail
    refine Calls.mono (told_any _ ys _ I9.out hl2) ?_
    rintro e Wa ⟨va, rfl, ra⟩
    have Ba : Hid (Below w.heap.size w Wa) := B9.out.trans (ra.bel.mono B9.out.size)
    have Ia : Hid (IvIn Wa va ys) := ra.isIn
    clear ra
    go_wp2_with fail
    refine Calls.mono (HRV.out _) ?_
    rintro e Wb ⟨vb, rfl, rb⟩
    have Bb : Hid (Below w.heap.size w Wb) := Ba.out.trans (rb.bel.mono Ba.out.size)
    have Ib : Hid (IvIn Wb va ys) := Ia.out.below rb.bel
    have Jb : Hid (IvIn Wb vb ys) := rb.isIn
    clear rb
    go_wp2_with fail
    refine Calls.mono (rsame_any _ _ ys _ Ib.out Jb.out hl2) ?_
    rintro e Wc ⟨rfl, bc⟩
    have Bc : Hid (Below w.heap.size w Wc) := Bb.out.trans (bc.mono Bb.out.size)
    clear bc
    go_wp2
    go_ret
    exact ⟨rfl, Bc.out⟩

/-! ### The row's step -/
set_option maxRecDepth 100000 in
theorem lifted (os : Os) (started : os.Started) (H : Type) (enc : TypeId × Value → H) :
    ReturnsInHanded {} Try.checked os 3 .any (Rows.dyadCoversSpec.pre6 enc Try.prog Try.f3 Rows.dyadCoversRow.domain false) (Rows.dyadCoversSpec.post enc Try.prog Try.f3 false true false false) := by
  refine returnsInHanded_of_change (C := Try.checked) own started (by kernel_rfl) Try.func3
    (ChangeSpec.witness6 (enc := enc) (C := Try.checked) false ⟨#[], #[.int .i64 0, .int .i64 0, .int .i64 0, .agg #[.int .i64 0, .int .i64 0]], []⟩ 8 (by kernel_rfl) (by kernel_rfl) (by kernel_rfl) (by kernel_rfl)) ?_
  intro W base args ds gs before hval0 hW hcnd _
  have hval : ∀ (j : Nat) t v, Try.f3.params[j]? = some t → args[j]? = some v → Value.okWide Try.prog W .any base t v := hval0
  have hW' := hW
  obtain ⟨p, q, hA0, hV, rfl, hfz, hnd⟩ := hW
  have hA : DataW.TrodAll enc Try.prog W 0 (fun _ => true) true Try.f3.params.toList args.toList ds p := hA0
  rw [Try.params3] at hA hval
  obtain ⟨v0, vs0, d0, ds0, p0, q0, hargs, rfl, rfl, h0, r0⟩ := trodAll_cons hA
  obtain ⟨v1, vs1, d1, ds1, p1, q1, rfl, rfl, rfl, h1, r1⟩ := trodAll_cons r0
  obtain ⟨v2, vs2, d2, ds2, p2, q2, rfl, rfl, rfl, h2, r2⟩ := trodAll_cons r1
  obtain ⟨v3, vs3, d3, ds3, p3, q3, rfl, rfl, rfl, h3, r3⟩ := trodAll_cons r2
  obtain ⟨rfl, rfl, rfl⟩ := trodAll_nil r3
  obtain rfl : args = #[v0, v1, v2, v3] := by cases args; simp_all
  obtain ⟨rfl, rfl⟩ := trodVars_none hV
  obtain ⟨a0, rfl, rfl, rfl, w0⟩ := open_int Try.underlying3 (hval 0 3 v0 rfl rfl) h0
  obtain ⟨a1, rfl, rfl, rfl, w1⟩ := open_int Try.underlying3 (hval 1 3 v1 rfl rfl) h1
  obtain ⟨a2, rfl, rfl, rfl, w2⟩ := open_int Try.underlying3 (hval 2 3 v2 rfl rfl) h2
  obtain ⟨cs3, rfl, hcs3⟩ := okWide_struct Try.underlying23 (hval 3 23 v3 rfl rfl)
  have k3 := h3
  have lt3 : ∀ x ∈ p3, x.block < W.heap.size := by obtain ⟨m, hm⟩ := k3; exact DataW.trod_lt m _ _ _ hm
  obtain ⟨fuel3, hf3⟩ := h3
  obtain ⟨a3, rfl, w3⟩ := iv_one hcs3 hf3
  clear hA0 hval0
  refine (walk a0 a1 a2 a3 W w0 w1 w2 w3).mono fun e W' ⟨he, bel⟩ => ?_
  subst he
  exact ⟨_, rfl, _, _, _, [], _, [], hW', trodAll_mk1 (shut_bool Try.underlying4 _), (trodAll_cons_mk (shut_int Try.underlying3 w0) (trodAll_cons_mk (shut_int Try.underlying3 w1) (trodAll_cons_mk (shut_int Try.underlying3 w2) (trodAll_cons_mk (Below.trod laidOut (by kernel_rfl) (of_decide_eq_true (by kernel_rfl)) k3 bel lt3) trodAll_mk0)))), rfl, bel.frame _, fun h => by cases h⟩

theorem over : Rows.dyadCoversRow.holds Try.pinned (OpenSpec.ofChange Rows.dyadCoversSpec) :=
  OpenClaim.holds_of_wide 3 Try.f3 rfl rfl rfl rfl rfl rfl rfl ⟨rfl, rfl, rfl, rfl, rfl⟩ rfl rfl rfl rfl rfl (by kernel_rfl) Try.func3 (by kernel_rfl)
    (of_decide_eq_true (by kernel_rfl)) (by unfold Func.isWrapper; first | (rw [if_pos (by decide +kernel)]; kernel_rfl) | (rw [if_neg (by decide +kernel)]; exact ⟨rfl, rfl⟩))
    (fun os started H enc _ => lifted os started H enc)

end Go.Proofs.Ythpcaaidimmafaa.dyadCovers

namespace Go.Proofs.Ythpcaaidimmafaa
/-- Proved: for every range, number of levels and interval, DyadCovers answers true (ranges, cells and intervals are as the page says). -/
theorem dyadCovers_holds : Rows.DyadCoversSaid := dyadCovers.over
#print axioms dyadCovers_holds
end Go.Proofs.Ythpcaaidimmafaa
