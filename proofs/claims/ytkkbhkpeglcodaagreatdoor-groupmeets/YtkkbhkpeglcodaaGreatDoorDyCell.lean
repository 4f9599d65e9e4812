/- dyad.Cell, dyad.Range. -/
import Derived.Test.YtkkbhkpeglcodaaGreatDoorDyGood
import Derived.Test.YtkkbhkpeglcodaaGreatDoorValMath
import Derived.Test.YtkkbhkpeglcodaaGreatDoorFam
namespace Go.Proofs.YtkkbhkpeglcodaaGreatDoor
open Go.ChangeShapes Go.WideShapes Go.ChangeAt Go.RowKit
set_option linter.unusedVariables false

/-- The number of a text's first two bytes. -/
def tnum (s : ByteArray) : Nat := (if h : 0 < s.size then s[0].toNat * 256 else 0) + (if h : 1 < s.size then s[1].toNat else 0)
def cellOf (a : At) (v : Vl) (L : Int) : Int :=
  if ¬ (0 ≤ L ∧ L ≤ 8) then -1 else
  if a.kind = 1 then (if -2147483648 ≤ a.mn ∧ a.mx ≤ 2147483648 ∧ a.mn ≤ v.num ∧ v.num ≤ a.mx then (v.num - a.mn) * 2 ^ L.toNat / (a.mx - a.mn + 1) else -1)
  else ((tnum v.str / 2 ^ (16 - L.toNat) : Nat) : Int)
def rangeOf (a : At) (p : Pd) (L : Int) : Int × Int :=
  if p.op = 1 then (cellOf a ⟨p.lo, ByteArray.empty⟩ L, cellOf a ⟨p.hi, ByteArray.empty⟩ L) else
  if p.op = 2 then (cellOf a ⟨0, p.str⟩ L, cellOf a ⟨0, p.str⟩ L) else
  (cellOf a ⟨0, p.str⟩ L, cellOf a ⟨0, p.str ++ ⟨#[255, 255]⟩⟩ L)
theorem tnum_lt (s : ByteArray) : tnum s < 65536 := by
  unfold tnum
  split <;> split
  · have := s[0].toNat_lt; have := s[1].toNat_lt; omega
  · have := s[0].toNat_lt; omega
  · have := s[1].toNat_lt; omega
  · omega

theorem cellOf_bad {a : At} {v : Vl} {L : Int} (h : ¬ (0 ≤ L ∧ L ≤ 8)) : cellOf a v L = -1 := if_pos h
theorem cellOf_num {a : At} {v : Vl} {L : Int} (h : 0 ≤ L ∧ L ≤ 8) (hk : a.kind = 1) (hr : -2147483648 ≤ a.mn ∧ a.mx ≤ 2147483648 ∧ a.mn ≤ v.num ∧ v.num ≤ a.mx) : cellOf a v L = (v.num - a.mn) * 2 ^ L.toNat / (a.mx - a.mn + 1) := by
  unfold cellOf; rw [if_neg (by simpa using h), if_pos hk, if_pos hr]
theorem cellOf_out {a : At} {v : Vl} {L : Int} (h : 0 ≤ L ∧ L ≤ 8) (hk : a.kind = 1) (hr : ¬ (-2147483648 ≤ a.mn ∧ a.mx ≤ 2147483648 ∧ a.mn ≤ v.num ∧ v.num ≤ a.mx)) : cellOf a v L = -1 := by
  unfold cellOf; rw [if_neg (by simpa using h), if_pos hk, if_neg hr]
theorem cellOf_text {a : At} {v : Vl} {L : Int} (h : 0 ≤ L ∧ L ≤ 8) (hk : ¬ a.kind = 1) : cellOf a v L = ((tnum v.str / 2 ^ (16 - L.toNat) : Nat) : Int) := by
  unfold cellOf; rw [if_neg (by simpa using h), if_neg hk]

set_option maxHeartbeats 1000000 in
theorem textCell_any (s : ByteArray) (n : Nat) (w : World) (hs : s.size ≤ maxLen) (hn : n ≤ 8) :
    Calls Tryz.prog 76 #[.string s, .int .i64 n] w fun e w' => e = .returned (.int .i64 ((tnum s / 2 ^ (16 - n) : Nat) : Int)) ∧ w' = w := by
  unfold maxLen at hs
  have hsub : ((16 : Int) - (n : Int)).toNat = 16 - n := by omega
  by_cases h0 : 0 < s.size
  · by_cases h1 : 1 < s.size
    · have hb0 := s[0].toNat_lt
      have hb1 := s[1].toNat_lt
      have HT : Hid (tnum s = s[0].toNat * 256 + s[1].toNat) := (by unfold tnum; rw [dif_pos h0, dif_pos h1] : tnum s = s[0].toNat * 256 + s[1].toNat)
      go_enter Tryz.func76, Tryz.ntmps76
      go_wp2
      go_ret
      exact ⟨by rw [HT.out]; refine ret_i ?_; simp, rfl⟩
    · have hb0 := s[0].toNat_lt
      have HT : Hid (tnum s = s[0].toNat * 256) := (by unfold tnum; rw [dif_pos h0, dif_neg h1]; exact Nat.add_zero _ : tnum s = s[0].toNat * 256)
      go_enter Tryz.func76, Tryz.ntmps76
      go_wp2
      go_ret
      exact ⟨by rw [HT.out]; refine ret_i ?_; simp, rfl⟩
  · have h1 : ¬ 1 < s.size := by omega
    have HT : Hid (tnum s = 0) := (by unfold tnum; rw [dif_neg h0, dif_neg h1] : tnum s = 0)
    go_enter Tryz.func76, Tryz.ntmps76
    go_wp2
    go_ret
    exact ⟨by rw [HT.out]; refine ret_i ?_; simp, rfl⟩

theorem w64_in {n : Int} (h1 : -9223372036854775808 ≤ n) (h2 : n ≤ 9223372036854775807) : wrap64 n = n := by
  unfold wrap64; omega
theorem prod_bd {x : Int} {n : Nat} (h0 : 0 ≤ x) (h1 : x ≤ 4294967296) (hn : n ≤ 8) : 0 ≤ x * 2 ^ n ∧ x * 2 ^ n ≤ 1099511627776 := by
  have h2 : (2 : Int) ^ n = ((2 ^ n : Nat) : Int) := by simp
  have h3 := pow_le_256 hn
  rw [h2]
  generalize 2 ^ n = P at *
  refine ⟨Int.mul_nonneg h0 (by omega), ?_⟩
  have := Int.mul_le_mul h1 (show ((P : Nat) : Int) ≤ 256 by omega) (by omega) (by omega)
  omega
set_option maxHeartbeats 1000000 in
theorem numCell_yes (nm : ByteArray) (kd mn mx v : Int) (n : Nat) (w : World) (hn : n ≤ 8) (h1 : -2147483648 ≤ mn) (h2 : mx ≤ 2147483648) (h3 : mn ≤ v) (h4 : v ≤ mx) :
    Calls Tryz.prog 75 #[.agg #[.string nm, .int .i64 kd, .int .i64 mn, .int .i64 mx], .int .i64 v, .int .i64 n] w fun e w' => e = .returned (.int .i64 ((v - mn) * 2 ^ n / (mx - mn + 1))) ∧ Below w.heap.size w w' := by
  have hp := prod_bd (x := v - mn) (n := n) (by omega) (by omega) hn
  have hwr : IntKind.i64.wrap ((v - mn) * 2 ^ n) = (v - mn) * 2 ^ n := IntWalk.i64_in _ (by omega)
  have HW : Hid (wrap64 ((v - mn) * 2 ^ n) = (v - mn) * 2 ^ n) := w64_in (by omega) (by omega)
  have HX : Hid (0 ≤ (v - mn) * 2 ^ n ∧ (v - mn) * 2 ^ n ≤ 1099511627776) := hp
  clear hwr hp
  have hD : ¬ (mx - mn + 1 = 0) := by omega
  go_enter Tryz.func75, Tryz.ntmps75
  go_wp2_with fail
  go_quiet (fail)
  go_wp2
  go_ret
  refine ⟨ret_i ?_, dbel1d _ _ _⟩
  show wrap64 ((wrap64 _).tdiv _) = _
  rw [HW.out, Int.tdiv_eq_ediv_of_nonneg HX.out.1]
  exact w64_in (by have := Int.ediv_nonneg HX.out.1 (show 0 ≤ mx - mn + 1 by omega); omega) (by have := Int.ediv_le_self (mx - mn + 1) HX.out.1; have := HX.out.2; omega)
set_option maxHeartbeats 1000000 in
theorem numCell_no (nm : ByteArray) (kd mn mx v : Int) (n : Nat) (w : World) (h : ¬ (-2147483648 ≤ mn ∧ mx ≤ 2147483648 ∧ mn ≤ v ∧ v ≤ mx)) :
    Calls Tryz.prog 75 #[.agg #[.string nm, .int .i64 kd, .int .i64 mn, .int .i64 mx], .int .i64 v, .int .i64 n] w fun e w' => e = .returned (.int .i64 (-1)) ∧ Below w.heap.size w w' := by
  by_cases h1 : -2147483648 ≤ mn
  · by_cases h2 : mx ≤ 2147483648
    · by_cases h3 : mn ≤ v
      · have h4 : ¬ v ≤ mx := fun h4 => h ⟨h1, h2, h3, h4⟩
        clear h
        go_enter Tryz.func75, Tryz.ntmps75
        go_wp2
        go_ret
        exact ⟨rfl, dbel1 _ _⟩
      · clear h
        go_enter Tryz.func75, Tryz.ntmps75
        go_wp2
        go_ret
        exact ⟨rfl, dbel1 _ _⟩
    · clear h
      go_enter Tryz.func75, Tryz.ntmps75
      go_wp2
      go_ret
      exact ⟨rfl, dbel1 _ _⟩
  · clear h
    go_enter Tryz.func75, Tryz.ntmps75
    go_wp2
    go_ret
    exact ⟨rfl, dbel1 _ _⟩

theorem numCell_any (a : At) (v : Vl) (n : Nat) (w : World) (hk : a.kind = 1) (hn : n ≤ 8) :
    Calls Tryz.prog 75 #[.agg #[.string a.name, .int .i64 1, .int .i64 a.mn, .int .i64 a.mx], .int .i64 v.num, .int .i64 n] w fun e w' => e = .returned (.int .i64 (cellOf a v n)) ∧ Below w.heap.size w w' := by
  by_cases h : -2147483648 ≤ a.mn ∧ a.mx ≤ 2147483648 ∧ a.mn ≤ v.num ∧ v.num ≤ a.mx
  · rw [cellOf_num (by omega) hk h, Int.toNat_natCast]
    exact numCell_yes _ _ _ _ _ n w hn h.1 h.2.1 h.2.2.1 h.2.2.2
  · rw [cellOf_out (by omega) hk h]
    exact numCell_no _ _ _ _ _ n w h

set_option maxHeartbeats 1000000 in
theorem cell_any (a : At) (v : Vl) (L : Int) (w : World) (hs : v.str.size ≤ maxLen) :
    Calls Tryz.prog 49 #[.agg #[.string a.name, .int .i64 a.kind, .int .i64 a.mn, .int .i64 a.mx], .agg #[.int .i64 v.num, .string v.str], .int .i64 L] w fun e w' => e = .returned (.int .i64 (cellOf a v L)) ∧ Below w.heap.size w w' := by
  by_cases hL : 0 ≤ L ∧ L ≤ 8
  · have HL : Hid (0 ≤ L ∧ L ≤ 8) := hL
    obtain ⟨n, rfl⟩ : ∃ n : Nat, L = n := ⟨L.toNat, by omega⟩
    have hn : n ≤ 8 := by omega
    clear hL
    by_cases hk : a.kind = 1
    · have HN := fun W => numCell_any a v n W hk hn
      generalize cellOf a v n = r at *
      have HN : Hid _ := HN
      go_enter Tryz.func49, Tryz.ntmps49
      go_wp2_with fail
      refine (levelled_yes _ _ HL.out).mono ?_
      rintro e w' ⟨rfl, hw'⟩
      subst w'
      go_wp2_with fail
      refine Calls.mono (HN.out _) ?_
      rintro e w2 ⟨rfl, hb2⟩
      have HB : Hid (Below w.heap.size w w2) := (dbel2 w _ _).trans (hb2.mono (by simp; omega))
      clear hb2
      go_wp2
      go_ret
      exact ⟨rfl, HB.out⟩
    · have HE : Hid (cellOf a v n = ((tnum v.str / 2 ^ (16 - n) : Nat) : Int)) := (by rw [cellOf_text HL.out hk, Int.toNat_natCast] : cellOf a v n = ((tnum v.str / 2 ^ (16 - n) : Nat) : Int))
      have HT : Hid _ := fun W => textCell_any v.str n W hs hn
      rw [HE.out]
      generalize tnum v.str / 2 ^ (16 - n) = r at *
      go_enter Tryz.func49, Tryz.ntmps49
      go_wp2_with fail
      refine (levelled_yes _ _ HL.out).mono ?_
      rintro e w' ⟨rfl, hw'⟩
      subst w'
      go_wp2_with fail
      refine Calls.mono (HT.out _) ?_
      rintro e w2 ⟨rfl, hw2⟩
      subst w2
      go_wp2
      go_ret
      exact ⟨rfl, dbel2 _ _ _⟩
  · have HL : Hid (¬ (0 ≤ L ∧ L ≤ 8)) := hL
    rw [cellOf_bad hL]
    clear hL
    go_enter Tryz.func49, Tryz.ntmps49
    go_wp2_with fail
    refine (levelled_no _ _ HL.out).mono ?_
    rintro e w' ⟨rfl, hw'⟩
    subst w'
    go_wp2
    go_ret
    exact ⟨rfl, dbel2 _ _ _⟩
end Go.Proofs.YtkkbhkpeglcodaaGreatDoor
