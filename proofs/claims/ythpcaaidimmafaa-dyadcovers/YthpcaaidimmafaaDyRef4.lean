/- wigwagref07.cover, Cover. -/
import Derived.Test.YthpcaaidimmafaaDyRef3
namespace Go.Proofs.Ythpcaaidimmafaa
open Go.ChangeShapes Go.WideShapes Go.ChangeAt Go.RowKit
set_option linter.unusedVariables false

theorem IvRow.rebase {T : TypeId} {W W' W2 : World} {v : Value} {xs : List Iv} (hb : Below W.heap.size W W') (h : IvRow T W' W2 v xs) : IvRow T W W2 v xs := by
  refine ⟨⟨h.row.1, ?_⟩, hb.trans (h.bel.mono hb.size)⟩
  rcases h.row.2 with h1 | ⟨g', cap, cur, hv, hbg, hg, hr⟩
  · exact .inl h1
  · exact .inr ⟨g', cap, cur, hv, Nat.le_trans hb.size hbg, hg, hr⟩
theorem IvRow.stepL {T : TypeId} {w0 W1 W2 : World} {v v' : Value} {xs ys : List Iv} (h1 : IvRow T w0 W1 v xs) (ha : Appended2 w0.heap.size T W1 W2 v v' (xs.length + ys.length) (xs.flatMap Iv.cells ++ ys.flatMap Iv.cells)) : IvRow T w0 W2 v' (xs ++ ys) := by
  refine ⟨?_, grown_belowI h1.bel h1.le h1.row ha.grown⟩
  have := ha.row
  simpa using this
theorem IvRow.one (T : TypeId) (w : World) (x : Iv) : IvRow T w (w.alloc (.cells #[.int .i64 x.lev, .int .i64 x.idx] T)) (.slice (some ⟨w.heap.size, 0, none⟩) 1 1) [x] :=
  ⟨⟨rfl, .inr ⟨w.heap.size, 1, _, rfl, Nat.le_refl _, heap_alloc_new w _, Nat.le_refl _, by unfold maxLen; omega, rfl, rfl⟩⟩, dbel1 _ _⟩
theorem mulw (i P : Nat) (hb : i * P ≤ 256) : wrap64 ((i : Int) * (P : Int)) = ((i * P : Nat) : Int) ∧ IntKind.i64.wrap ((i : Int) * (P : Int)) = ((i * P : Nat) : Int) := by
  have e : (i : Int) * (P : Int) = ((i * P : Nat) : Int) := by rw [Int.natCast_mul]
  rw [e]
  generalize i * P = A at *
  exact ⟨w64_in (by omega) (by omega), IntWalk.i64_in _ (by omega)⟩
theorem rc_bd {l m n i : Nat} (hl : l + m = n) (hn : n ≤ 8) (hil : i < 2 ^ l) : i * 2 ^ m + 2 ^ m ≤ 256 ∧ i ≤ 256 := by
  have h1 : (i + 1) * 2 ^ m ≤ 2 ^ l * 2 ^ m := Nat.mul_le_mul_right _ hil
  rw [← Nat.pow_add, hl, Nat.add_mul, Nat.one_mul] at h1
  have h2 := pow_le_256 hn
  have h3 := pow_le_256 (show l ≤ 8 by omega)
  exact ⟨Nat.le_trans h1 h2, Nat.le_trans (Nat.le_of_lt hil) h3⟩
theorem rc_kid {l i : Nat} (hil : i < 2 ^ l) : 2 * i < 2 ^ (l + 1) ∧ 2 * i + 1 < 2 ^ (l + 1) := by
  rw [Nat.pow_succ]
  generalize 2 ^ l = Q at *
  omega

theorem made2 (T : TypeId) (W : World) (o : Obj) (nq : Nat) : IvRow T W (((W.alloc o).drewN nq).alloc (.cells #[] T)) (.slice (some ⟨W.heap.size + 1, 0, none⟩) 0 0) [] := by
  have := IvRow.rebase (dbel1d W o nq) (IvRow.made T ((W.alloc o).drewN nq))
  simpa using this
theorem one2 (T : TypeId) (W : World) (o : Obj) (nq : Nat) (x : Iv) : IvRow T W (((W.alloc o).drewN nq).alloc (.cells #[.int .i64 x.lev, .int .i64 x.idx] T)) (.slice (some ⟨W.heap.size + 1, 0, none⟩) 1 1) [x] := by
  have := IvRow.rebase (dbel1d W o nq) (IvRow.one T ((W.alloc o).drewN nq) x)
  simpa using this
/-- What the walks below have in common. -/
structure RcFit (lo hi n l i P A : Nat) : Prop where
  pw : ∀ W, Calls Try.prog 14 #[.int .i64 ((n : Int) - (l : Int))] W fun e w' => e = .returned (.int .i64 (P : Int)) ∧ w' = W
  w64 : wrap64 ((i : Int) * (P : Int)) = (A : Int)
  wr : IntKind.i64.wrap ((i : Int) * (P : Int)) = (A : Int)
  bd : A + P ≤ 256
  bi : i ≤ 256
  p1 : 1 ≤ P
  bn : n ≤ 8
  bl : l ≤ n
  lo : lo ≤ 255
  hi : hi ≤ 255

set_option maxHeartbeats 1000000 in
theorem rc_out (lo hi n l i P A : Nat) (W : World) (h : RcFit lo hi n l i P A) (hs : hi < A ∨ A + P ≤ lo) :
    Calls Try.prog 35 #[.agg #[.int .i64 l, .int .i64 i], .int .i64 lo, .int .i64 hi, .int .i64 n] W fun e w' => ∃ v, e = .returned v ∧ IvRow 27 W w' v [] := by
  obtain ⟨pw, h64, hwr, bd, bi, p1, bn, bl, hlo, hhi⟩ := h
  have HP : Hid _ := pw
  clear pw
  by_cases s1 : hi < A
  · clear hs
    go_enter Try.func35, Try.ntmps35
    go_wp2_with fail
    refine Calls.mono (HP.out _) ?_
    rintro e w' ⟨rfl, hw'⟩
    subst w'
    go_wp2_with fail
    go_quiet (fail)
    go_wp2
    go_ret
    exact ⟨_, rfl, made2 _ _ _ _⟩
  · have s2 : A + P ≤ lo := by omega
    clear hs
    go_enter Try.func35, Try.ntmps35
    go_wp2_with fail
    refine Calls.mono (HP.out _) ?_
    rintro e w' ⟨rfl, hw'⟩
    subst w'
    go_wp2_with fail
    go_quiet (fail)
    go_wp2
    go_ret
    exact ⟨_, rfl, made2 _ _ _ _⟩

set_option maxHeartbeats 1000000 in
theorem rc_full (lo hi n l i P A : Nat) (W : World) (h : RcFit lo hi n l i P A) (s3 : lo ≤ A) (s4 : A + P ≤ hi + 1) :
    Calls Try.prog 35 #[.agg #[.int .i64 l, .int .i64 i], .int .i64 lo, .int .i64 hi, .int .i64 n] W fun e w' => ∃ v, e = .returned v ∧ IvRow 27 W w' v [⟨(l : Nat), (i : Nat)⟩] := by
  obtain ⟨pw, h64, hwr, bd, bi, p1, bn, bl, hlo, hhi⟩ := h
  have HP : Hid _ := pw
  clear pw
  have s1 : ¬ hi < A := by omega
  have s2 : ¬ A + P ≤ lo := by omega
  go_enter Try.func35, Try.ntmps35
  go_wp2_with fail
  refine Calls.mono (HP.out _) ?_
  rintro e w' ⟨rfl, hw'⟩
  subst w'
  go_wp2_with fail
  go_quiet (fail)
  go_wp2
  go_ret
  exact ⟨_, rfl, one2 _ _ _ _ ⟨(l : Nat), (i : Nat)⟩⟩

set_option maxRecDepth 100000 in
set_option maxHeartbeats 1000000 in
theorem rc_part (lo hi n l i P A : Nat) (W : World) (xs ys : List Iv) (h : RcFit lo hi n l i P A) (s1 : ¬ hi < A) (s2 : ¬ A + P ≤ lo) (s3 : ¬ (lo ≤ A ∧ A + P ≤ hi + 1)) (lx : xs.length ≤ 100) (ly : ys.length ≤ 100)
    (k1 : ∀ W, Calls Try.prog 35 #[.agg #[.int .i64 ((l : Int) + 1), .int .i64 (2 * (i : Int))], .int .i64 lo, .int .i64 hi, .int .i64 n] W fun e w' => ∃ v, e = .returned v ∧ IvRow 27 W w' v xs)
    (k2 : ∀ W, Calls Try.prog 35 #[.agg #[.int .i64 ((l : Int) + 1), .int .i64 (2 * (i : Int) + 1)], .int .i64 lo, .int .i64 hi, .int .i64 n] W fun e w' => ∃ v, e = .returned v ∧ IvRow 27 W w' v ys) :
    Calls Try.prog 35 #[.agg #[.int .i64 l, .int .i64 i], .int .i64 lo, .int .i64 hi, .int .i64 n] W fun e w' => ∃ v, e = .returned v ∧ IvRow 27 W w' v (xs ++ ys) := by
  obtain ⟨i0, hi0, hz0, hz1, hz2⟩ := dinfo Try.infoRIv
  obtain ⟨pw, h64, hwr, bd, bi, p1, bn, bl, hlo, hhi⟩ := h
  have HP : Hid _ := pw
  have HC1 : Hid _ := k1
  have HC2 : Hid _ := k2
  clear pw k1 k2
  have H3 : Hid (¬ (lo ≤ A ∧ A + P ≤ hi + 1)) := s3
  clear s3
  by_cases s3 : lo ≤ A
  all_goals
    have s4 : lo ≤ A → ¬ A + P ≤ hi + 1 := fun h h' => H3.out ⟨h, h'⟩
    first | (have s5 := s4 s3; clear s4) | clear s4
    go_enter Try.func35, Try.ntmps35
    go_wp2_with fail
    refine Calls.mono (HP.out _) ?_
    rintro e w' ⟨rfl, hw'⟩
    subst w'
    go_wp2_with fail
    go_quiet (fail)
    obtain ⟨W1, hW1⟩ : ∃ W1, W1 = (W.alloc (.cells #[.int .i64 l, .int .i64 i] 27)).drewN nq := ⟨_, rfl⟩
    rw [← hW1]
    have b1 : Below W.heap.size W W1 := by rw [hW1]; exact dbel1d _ _ _
    have k0 : W1.cell? ⟨W.heap.size, 0, none⟩ = some (.int .i64 l) := by rw [hW1]; simp
    have k1 : W1.cell? ⟨W.heap.size, 1, none⟩ = some (.int .i64 i) := by rw [hW1]; simp
    have kl : W.heap.size < W1.heap.size := by rw [hW1]; simp
    have HB1 : Hid (Below W.heap.size W W1) := b1
    clear hW1 b1
    go_wp2_with fail
    refine Calls.mono (HC1.out _) ?_
    rintro e W2 ⟨v1, rfl, hr1⟩
    have R1 : Hid (IvRow 27 W W2 v1 xs) := IvRow.rebase HB1.out hr1
    have q0 := (hr1.bel.cell (p := ⟨W.heap.size, 0, none⟩) kl).trans k0
    have q1 := (hr1.bel.cell (p := ⟨W.heap.size, 1, none⟩) kl).trans k1
    have ql : W.heap.size < W2.heap.size := Nat.lt_of_lt_of_le kl hr1.bel.size
    obtain ⟨a1, c1, hv1, _⟩ := hr1.isIn.shape
    subst hv1
    clear hr1 k0 k1 kl HB1
    go_wp2_with fail
    refine Calls.mono (HC2.out _) ?_
    rintro e W3 ⟨v2, rfl, hr2⟩
    have R2 : Hid (IvRow 27 W W3 (.slice a1 xs.length c1) xs) := R1.out.carry hr2.bel
    have HO2 : Hid (W3.ownsRow W2.heap.size 27 2 v2 ys.length (ys.flatMap Iv.cells)) := hr2.row
    obtain ⟨a2, c2, hv2, _⟩ := hr2.isIn.shape
    subst hv2
    have hle3 := R2.out.le
    clear hr2 q0 q1 ql R1
    go_wp2_with (at_builtin; refine wpList_own_append2 _ rfl _ _ 33 33 rfl W.heap.size 27 i0 _ 16 Try.underlying33 hi0 hz0 hz1 hz2 rfl _ xs.length (xs.flatMap Iv.cells) rfl R2.out.row _ ys.length (ys.flatMap Iv.cells) rfl (src_own HO2.out) ?c3 ?c4 ?c5 ?_)
    case c3 => unfold maxLen; omega
    case c4 => omega
    case c5 => omega
    intro v3 W4 ha
    have HST : Hid (IvRow 27 W W4 v3 (xs ++ ys)) := R2.out.stepL ha
    clear ha
    go_wp2
    go_ret
    exact ⟨_, rfl, HST.out⟩

end Go.Proofs.Ythpcaaidimmafaa
