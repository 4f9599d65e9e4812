/- wigwagref07.Cover, by halves. -/
import Derived.Test.YthpcaaidimmafaaDyRef4
namespace Go.Proofs.Ythpcaaidimmafaa
open Go.ChangeShapes Go.WideShapes Go.ChangeAt Go.RowKit
set_option linter.unusedVariables false

theorem fit_of {lo hi n l m i : Nat} (hn : n ≤ 8) (hlo : lo ≤ 255) (hhi : hi ≤ 255) (hl : l + m = n) (hil : i < 2 ^ l) : RcFit lo hi n l i (2 ^ m) (i * 2 ^ m) := by
  have hm : m ≤ 16 := by clear hil; omega
  have e : ((m : Nat) : Int) = (n : Int) - (l : Int) := by clear hil; omega
  have hb : l ≤ n := by clear hil; omega
  obtain ⟨hpb, hi2⟩ := rc_bd hl hn hil
  obtain ⟨h64, hwr⟩ := mulw i (2 ^ m) (Nat.le_trans (Nat.le_add_right _ _) hpb)
  have HP := fun W => power_any m W hm
  rw [e] at HP
  exact ⟨HP, h64, hwr, hpb, hi2, pow_pos2 m, hn, hb, hlo, hhi⟩
theorem len100 {lo hi n m i : Nat} (hm : m ≤ 8) : (hv lo hi n m i).length ≤ 100 := by
  have := hv_len lo hi n m i
  omega

theorem rcover_rec (lo hi n : Nat) (hn : n ≤ 8) (hlo : lo ≤ 255) (hhi : hi ≤ 255) : ∀ (m l i : Nat) (W : World), l + m = n → i < 2 ^ l →
    Calls Try.prog 35 #[.agg #[.int .i64 l, .int .i64 i], .int .i64 lo, .int .i64 hi, .int .i64 n] W fun e w' => ∃ v, e = .returned v ∧ IvRow 27 W w' v (hv lo hi n m i) := by
  intro m
  induction m with
  | zero =>
    intro l i W hl hil
    have F := fit_of (i := i) hn hlo hhi hl hil
    have e : n - 0 = l := by clear F hil; omega
    clear hil
    by_cases s : hi < i * 2 ^ 0 ∨ i * 2 ^ 0 + 2 ^ 0 ≤ lo
    · rw [hv_out lo hi n 0 i s]; exact rc_out lo hi n l i _ _ W F s
    · have t : lo ≤ i * 2 ^ 0 ∧ i * 2 ^ 0 + 2 ^ 0 ≤ hi + 1 := by
        clear F
        rw [Nat.pow_zero, Nat.mul_one] at *
        omega
      rw [hv_full lo hi n 0 i t.1 t.2, e]
      exact rc_full lo hi n l i _ _ W F t.1 t.2
  | succ m ih =>
    intro l i W hl hil
    have e1 : l + 1 + m = n := by clear hil; omega
    have e2 : n - (m + 1) = l := by clear hil; omega
    have e3 : m ≤ 8 := by clear hil; omega
    have F := fit_of (i := i) hn hlo hhi hl hil
    have c1 := fun W => ih (l + 1) (2 * i) W e1 (rc_kid hil).1
    have c2 := fun W => ih (l + 1) (2 * i + 1) W e1 (rc_kid hil).2
    have HPART := hv_part lo hi n m i
    have HOUT := hv_out lo hi n (m + 1) i
    have HFULL := hv_full lo hi n (m + 1) i
    rw [e2] at HFULL
    clear hil ih
    generalize i * 2 ^ (m + 1) = A at *
    generalize 2 ^ (m + 1) = P at *
    by_cases s : hi < A ∨ A + P ≤ lo
    · rw [HOUT s]; exact rc_out lo hi n l i _ _ W F s
    · by_cases t : lo ≤ A ∧ A + P ≤ hi + 1
      · rw [HFULL t.1 t.2]; exact rc_full lo hi n l i _ _ W F t.1 t.2
      · rw [HPART (by omega) (by omega) t]
        refine rc_part lo hi n l i P A W _ _ F (fun h => s (.inl h)) (fun h => s (.inr h)) t (len100 e3) (len100 e3) (fun W => ?_) (fun W => ?_)
        · have := c1 W
          rw [show ((l + 1 : Nat) : Int) = (l : Int) + 1 from rfl, show ((2 * i : Nat) : Int) = 2 * (i : Int) by rw [Int.natCast_mul]; rfl] at this
          exact this
        · have := c2 W
          rw [show ((l + 1 : Nat) : Int) = (l : Int) + 1 from rfl, show ((2 * i + 1 : Nat) : Int) = 2 * (i : Int) + 1 by rw [Int.natCast_add, Int.natCast_mul]; rfl] at this
          exact this

set_option maxHeartbeats 1000000 in
theorem rcover_any (lo hi L : Int) (w : World) :
    Calls Try.prog 20 #[.int .i64 lo, .int .i64 hi, .int .i64 L] w fun e w' => ∃ v, e = .returned v ∧ IvRow 27 w w' v (coverOf lo hi L) := by
  have G1 : Hid _ := fun W => rgood_any ⟨L, lo⟩ L W
  have G2 : Hid _ := fun W => rgood_any ⟨L, hi⟩ L W
  by_cases h : (Iv.mk L lo).good L ∧ (Iv.mk L hi).good L
  · by_cases hlh : hi < lo
    · have e : coverOf lo hi L = [] := by
        unfold coverOf; rw [if_pos h]
        have := (good_cell.1 h.2).2.2.1
        exact cover_end _ _ _ (by omega)
      rw [e]
      clear h e G1 G2
      have HM : Hid _ := IvRow.made 27 w
      go_enter Try.func20, Try.ntmps20
      go_wp2
      go_ret
      exact ⟨_, rfl, HM.out⟩
    · obtain ⟨l, k, n, e, rfl, h1, h2, h3⟩ := Iv.good_nat h.1
      obtain ⟨l', k', n', e', en, g1, g2, g3⟩ := Iv.good_nat h.2
      have e1 : ((n : Nat) : Int) = l := congrArg Iv.lev e
      have e2 : lo = k := congrArg Iv.idx e
      have e1' : ((n : Nat) : Int) = l' := congrArg Iv.lev e'
      have e2' : hi = k' := congrArg Iv.idx e'
      obtain rfl : n = l := by clear h3 g3; omega
      obtain rfl : n = l' := by clear h3 g3; omega
      subst e2 e2'
      have hkk : k ≤ k' := by clear h3 g3; omega
      have hp := pow_le_256 h2
      have HK : Hid _ := fun W => rcover_rec k k' n h2 (by omega) (by omega) n 0 0 W (by omega) (by decide)
      rw [coverOf_nat h2 h3 g3, cover_halves k k' n hkk g3]
      rw [show (Iv.mk n k).goodB n = true from decide_eq_true h.1] at G1
      rw [show (Iv.mk n k').goodB n = true from decide_eq_true h.2] at G2
      generalize hv k k' n n 0 = xs at *
      clear h e e' en e1 e1' h1 g1 g2 h3 g3 hp
      go_enter Try.func20, Try.ntmps20
      go_wp2_with fail
      refine Calls.mono (G1.out _) ?_
      rintro e W1 ⟨rfl, b1⟩
      go_wp2_with fail
      refine Calls.mono (G2.out _) ?_
      rintro e W2 ⟨rfl, b2⟩
      have B2 : Hid (Below w.heap.size w W2) := b1.trans (b2.mono b1.size)
      clear b1 b2
      go_wp2_with fail
      refine Calls.mono (HK.out _) ?_
      rintro e W3 ⟨v, rfl, hr⟩
      have R : Hid _ := IvRow.rebase B2.out hr
      clear hr
      go_wp2
      go_ret
      exact ⟨_, rfl, R.out⟩
  · have e : coverOf lo hi L = [] := if_neg h
    rw [e]
    by_cases hlh : hi < lo
    · clear h e G1 G2
      have HM : Hid _ := IvRow.made 27 w
      go_enter Try.func20, Try.ntmps20
      go_wp2
      go_ret
      exact ⟨_, rfl, HM.out⟩
    · by_cases h1 : (Iv.mk L lo).good L
      · rw [show (Iv.mk L lo).goodB L = true from decide_eq_true h1] at G1
        rw [show (Iv.mk L hi).goodB L = false from not_good (fun hh => h ⟨h1, hh⟩)] at G2
        clear h h1 e
        go_enter Try.func20, Try.ntmps20
        go_wp2_with fail
        refine Calls.mono (G1.out _) ?_
        rintro e W1 ⟨rfl, b1⟩
        go_wp2_with fail
        refine Calls.mono (G2.out _) ?_
        rintro e W2 ⟨rfl, b2⟩
        have R : Hid _ := IvRow.rebase (b1.trans (b2.mono b1.size)) (IvRow.made 27 W2)
        clear b1 b2
        go_wp2
        go_ret
        exact ⟨_, rfl, R.out⟩
      · rw [show (Iv.mk L lo).goodB L = false from not_good h1] at G1
        clear h h1 e G2
        go_enter Try.func20, Try.ntmps20
        go_wp2_with fail
        refine Calls.mono (G1.out _) ?_
        rintro e W1 ⟨rfl, b1⟩
        have R : Hid _ := IvRow.rebase b1 (IvRow.made 27 W1)
        clear b1
        go_wp2
        go_ret
        exact ⟨_, rfl, R.out⟩
end Go.Proofs.Ythpcaaidimmafaa
