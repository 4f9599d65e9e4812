/- The document's ReadInt, ReadBelow, ReadText, Done. -/
import Derived.Test.YticdikllfkfkfaaDoorCodeCurN
import Derived.Handy
namespace Go.Proofs.YticdikllfkfkfaaDoor
open Go.ChangeShapes Go.WideShapes Go.ChangeAt Go.RowKit
set_option linter.unusedVariables false

theorem two_blocks {w w1 : World} {a0 a1 a2 b0 b1 b2 : Value} {T U : TypeId} (hb : Below ((w.alloc (.cells #[a0, a1, a2] T)).alloc (.cells #[b0, b1, b2] U)).heap.size ((w.alloc (.cells #[a0, a1, a2] T)).alloc (.cells #[b0, b1, b2] U)) w1) :
    w1.cell? ⟨w.heap.size, 0, none⟩ = some a0 ∧ w1.cell? ⟨w.heap.size, 1, none⟩ = some a1 ∧ w1.cell? ⟨w.heap.size, 2, none⟩ = some a2
    ∧ w1.cell? ⟨w.heap.size + 1, 0, none⟩ = some b0 ∧ w1.cell? ⟨w.heap.size + 1, 1, none⟩ = some b1 ∧ w1.cell? ⟨w.heap.size + 1, 2, none⟩ = some b2
    ∧ (∀ o, w1.frozen? ⟨w.heap.size, o, none⟩ = false) ∧ (∀ o, w1.frozen? ⟨w.heap.size + 1, o, none⟩ = false) := by
  have k0 : ∀ o, w1.cell? ⟨w.heap.size, o, none⟩ = _ := fun o => hb.cell (p := ⟨w.heap.size, o, none⟩) (by simp; omega)
  have k1 : ∀ o, w1.cell? ⟨w.heap.size + 1, o, none⟩ = _ := fun o => hb.cell (p := ⟨w.heap.size + 1, o, none⟩) (by simp)
  have f0 : ∀ o, w1.frozen? ⟨w.heap.size, o, none⟩ = _ := fun o => hb.frozen (p := ⟨w.heap.size, o, none⟩) (by simp; omega)
  have f1 : ∀ o, w1.frozen? ⟨w.heap.size + 1, o, none⟩ = _ := fun o => hb.frozen (p := ⟨w.heap.size + 1, o, none⟩) (by simp)
  refine ⟨?_, ?_, ?_, ?_, ?_, ?_, fun o => ?_, fun o => ?_⟩
  all_goals first | rw [k0] | rw [k1] | rw [f0] | rw [f1]
  all_goals simp [go_sem]
theorem bel2t {w w1 : World} {a b : Obj} (h : Below ((w.alloc a).alloc b).heap.size ((w.alloc a).alloc b) w1) : Below w.heap.size w w1 :=
  (bel2 w a b).trans (h.mono (by simp; omega))

/-- ReadInt, where ReadNumber's answer is known. -/
theorem cint_of (s : ByteArray) (at' c p d m : Nat) (y : Int) (w : World) (hm : m ≤ 18446744073709551615) (hy : y = zag m)
    (H : (∀ w, Calls Tryd.prog 12 #[curV s at' c] w fun e w' => e = .returned (.tuple #[curV s p d, .int .u64 m]) ∧ Below w.heap.size w w')) :
    Calls Tryd.prog 14 #[curV s at' c] w fun e w' => e = .returned (.tuple #[curV s p d, .int .i64 y]) ∧ Below w.heap.size w w' := by
  have hm1 : (m : Int) ≤ 18446744073709551615 := by omega
  have hm0 : (0 : Int) ≤ (m : Int) := by omega
  have HH : Hid (∀ w, Calls Tryd.prog 12 #[curV s at' c] w fun e w' => e = .returned (.tuple #[curV s p d, .int .u64 m]) ∧ Below w.heap.size w w') := H
  clear H
  by_cases ho : ((m : Int) % 2 == 0) = true
  · have HZ : Hid (y = ((m / 2 : Nat) : Int)) := (by rw [hy, zag_even m (by have := beq_iff_eq.1 ho; omega)] : y = ((m / 2 : Nat) : Int))
    clear hy
    go_enter Tryd.func14, Tryd.ntmps14
    go_wp2_with fail
    refine (HH.out _).mono ?_
    rintro e w1 ⟨rfl, hb⟩
    obtain ⟨c0, c1, c2, d0, d1, d2, f0, f1⟩ := two_blocks hb
    have hz : w.heap.size + 1 < w1.heap.size := by have := hb.size; simp at this; omega
    have hz0 : w.heap.size < w1.heap.size := by omega
    have hB := bel2t hb
    clear hb
    go_wp2
    refine bodyPost_ret (v := .tuple #[curV s p d, .int .i64 ((m : Int) / 2)]) (by simp [results, Tryd.results14, go_sem, *]) rfl ⟨?_, ?_⟩
    · rw [HZ.out]; rfl
    · go_grown
  · have ho : ((m : Int) % 2 == 0) = false := by simpa using ho
    have HZ : Hid (y = -((m / 2 : Nat) : Int) - 1) := (by rw [hy, zag_odd m (by have := beq_eq_false_iff_ne.1 ho; omega)] : y = -((m / 2 : Nat) : Int) - 1)
    clear hy
    go_enter Tryd.func14, Tryd.ntmps14
    go_wp2_with fail
    refine (HH.out _).mono ?_
    rintro e w1 ⟨rfl, hb⟩
    obtain ⟨c0, c1, c2, d0, d1, d2, f0, f1⟩ := two_blocks hb
    have hz : w.heap.size + 1 < w1.heap.size := by have := hb.size; simp at this; omega
    have hz0 : w.heap.size < w1.heap.size := by omega
    have hB := bel2t hb
    clear hb
    go_wp2
    refine bodyPost_ret (v := .tuple #[curV s p d, .int .i64 (-((m : Int) / 2) - 1)]) (by simp [results, Tryd.results14, go_sem, *]) rfl ⟨?_, ?_⟩
    · rw [HZ.out]; rfl
    · go_grown

theorem cbelow_err (s : ByteArray) (at' c p d : Nat) (y most : Int) (w : World) (hd : d ≠ 0)
    (H : (∀ w, Calls Tryd.prog 14 #[curV s at' c] w fun e w' => e = .returned (.tuple #[curV s p d, .int .i64 y]) ∧ Below w.heap.size w w')) :
    Calls Tryd.prog 18 #[curV s at' c, .int .i64 most] w fun e w' => e = .returned (.tuple #[curV s p d, .int .i64 0]) ∧ Below w.heap.size w w' := by
  have HH : Hid (∀ w, Calls Tryd.prog 14 #[curV s at' c] w fun e w' => e = .returned (.tuple #[curV s p d, .int .i64 y]) ∧ Below w.heap.size w w') := H
  clear H
  have hb : ((d : Int) != 0) = true := bne_iff_ne.2 (by omega)
  go_enter Tryd.func18, Tryd.ntmps18
  go_wp2_with fail
  refine (HH.out _).mono ?_
  rintro e w1 ⟨rfl, hb⟩
  obtain ⟨c0, c1, c2, d0, d1, d2, f0, f1⟩ := two_blocks hb
  have hz : w.heap.size + 1 < w1.heap.size := by have := hb.size; simp at this; omega
  have hz0 : w.heap.size < w1.heap.size := by omega
  have hB := bel2t hb
  clear hb
  go_wp2
  refine bodyPost_ret (v := .tuple #[curV s p d, .int .i64 0]) (by simp [results, Tryd.results18, go_sem, *]) rfl ⟨?_, ?_⟩
  · rfl
  · go_grown

theorem cbelow_arg (s : ByteArray) (at' p : Nat) (y most : Int) (w : World) (hm : y < 0 ∨ most ≤ y)
    (H : (∀ w, Calls Tryd.prog 14 #[curV s at' 0] w fun e w' => e = .returned (.tuple #[curV s p 0, .int .i64 y]) ∧ Below w.heap.size w w')) :
    Calls Tryd.prog 18 #[curV s at' 0, .int .i64 most] w fun e w' => e = .returned (.tuple #[curV s at' 1, .int .i64 0]) ∧ Below w.heap.size w w' := by
  have HH : Hid (∀ w, Calls Tryd.prog 14 #[curV s at' 0] w fun e w' => e = .returned (.tuple #[curV s p 0, .int .i64 y]) ∧ Below w.heap.size w w') := H
  clear H
  rcases Int.lt_or_le y 0 with hn0 | hn0
  · clear hm
    go_enter Tryd.func18, Tryd.ntmps18
    go_wp2_with fail
    refine (HH.out _).mono ?_
    rintro e w1 ⟨rfl, hb⟩
    obtain ⟨c0, c1, c2, d0, d1, d2, f0, f1⟩ := two_blocks hb
    have hz : w.heap.size + 1 < w1.heap.size := by have := hb.size; simp at this; omega
    have hz0 : w.heap.size < w1.heap.size := by omega
    have hB := bel2t hb
    clear hb
    go_wp2
    refine bodyPost_ret (v := .tuple #[curV s at' 1, .int .i64 0]) (by simp [results, Tryd.results18, go_sem, *]) rfl ⟨?_, ?_⟩
    · rfl
    · go_grown
  · have hn1 : most ≤ y := by omega
    clear hm
    go_enter Tryd.func18, Tryd.ntmps18
    go_wp2_with fail
    refine (HH.out _).mono ?_
    rintro e w1 ⟨rfl, hb⟩
    obtain ⟨c0, c1, c2, d0, d1, d2, f0, f1⟩ := two_blocks hb
    have hz : w.heap.size + 1 < w1.heap.size := by have := hb.size; simp at this; omega
    have hz0 : w.heap.size < w1.heap.size := by omega
    have hB := bel2t hb
    clear hb
    go_wp2
    refine bodyPost_ret (v := .tuple #[curV s at' 1, .int .i64 0]) (by simp [results, Tryd.results18, go_sem, *]) rfl ⟨?_, ?_⟩
    · rfl
    · go_grown

theorem cbelow_ok (s : ByteArray) (at' p : Nat) (y most : Int) (w : World) (h0 : 0 ≤ y) (hm : y < most)
    (H : (∀ w, Calls Tryd.prog 14 #[curV s at' 0] w fun e w' => e = .returned (.tuple #[curV s p 0, .int .i64 y]) ∧ Below w.heap.size w w')) :
    Calls Tryd.prog 18 #[curV s at' 0, .int .i64 most] w fun e w' => e = .returned (.tuple #[curV s p 0, .int .i64 y]) ∧ Below w.heap.size w w' := by
  have HH : Hid (∀ w, Calls Tryd.prog 14 #[curV s at' 0] w fun e w' => e = .returned (.tuple #[curV s p 0, .int .i64 y]) ∧ Below w.heap.size w w') := H
  clear H
  go_enter Tryd.func18, Tryd.ntmps18
  go_wp2_with fail
  refine (HH.out _).mono ?_
  rintro e w1 ⟨rfl, hb⟩
  obtain ⟨c0, c1, c2, d0, d1, d2, f0, f1⟩ := two_blocks hb
  have hz : w.heap.size + 1 < w1.heap.size := by have := hb.size; simp at this; omega
  have hz0 : w.heap.size < w1.heap.size := by omega
  have hB := bel2t hb
  clear hb
  go_wp2
  refine bodyPost_ret (v := .tuple #[curV s p 0, .int .i64 y]) (by simp [results, Tryd.results18, go_sem, *]) rfl ⟨?_, ?_⟩
  · rfl
  · go_grown

theorem ctext_err (s : ByteArray) (at' c p d m : Nat) (most : Int) (w : World) (hd : d ≠ 0)
    (H : (∀ w, Calls Tryd.prog 12 #[curV s at' c] w fun e w' => e = .returned (.tuple #[curV s p d, .int .u64 m]) ∧ Below w.heap.size w w')) :
    Calls Tryd.prog 16 #[curV s at' c, .int .i64 most] w fun e w' => e = .returned (.tuple #[curV s p d, .string ByteArray.empty]) ∧ Below w.heap.size w w' := by
  have HH : Hid (∀ w, Calls Tryd.prog 12 #[curV s at' c] w fun e w' => e = .returned (.tuple #[curV s p d, .int .u64 m]) ∧ Below w.heap.size w w') := H
  clear H
  have hb : ((d : Int) != 0) = true := bne_iff_ne.2 (by omega)
  go_enter Tryd.func16, Tryd.ntmps16
  go_wp2_with fail
  refine (HH.out _).mono ?_
  rintro e w1 ⟨rfl, hb⟩
  obtain ⟨c0, c1, c2, d0, d1, d2, f0, f1⟩ := two_blocks hb
  have hz : w.heap.size + 1 < w1.heap.size := by have := hb.size; simp at this; omega
  have hz0 : w.heap.size < w1.heap.size := by omega
  have hB := bel2t hb
  clear hb
  go_wp2
  refine bodyPost_ret (v := .tuple #[curV s p d, .string ⟨#[]⟩]) (by simp [results, Tryd.results16, go_sem, *]) rfl ⟨?_, ?_⟩
  · rfl
  · go_grown

set_option maxHeartbeats 1000000 in
theorem ctext_arg (s : ByteArray) (at' p m : Nat) (most : Int) (w : World) (hm : m ≤ 18446744073709551615) (hmost : most ≤ 9223372036854775807) (hn : max most 0 < (m : Int))
    (H : (∀ w, Calls Tryd.prog 12 #[curV s at' 0] w fun e w' => e = .returned (.tuple #[curV s p 0, .int .u64 m]) ∧ Below w.heap.size w w')) :
    Calls Tryd.prog 16 #[curV s at' 0, .int .i64 most] w fun e w' => e = .returned (.tuple #[curV s at' 1, .string ByteArray.empty]) ∧ Below w.heap.size w w' := by
  have HH : Hid (∀ w, Calls Tryd.prog 12 #[curV s at' 0] w fun e w' => e = .returned (.tuple #[curV s p 0, .int .u64 m]) ∧ Below w.heap.size w w') := H
  clear H
  have hm1 : (m : Int) ≤ 18446744073709551615 := by omega
  rcases Int.lt_or_le most 0 with hn0 | hn0
  · have hm0 : (0 : Int) < (m : Int) := by omega
    clear hn
    go_enter Tryd.func16, Tryd.ntmps16
    go_wp2_with fail
    refine (HH.out _).mono ?_
    rintro e w1 ⟨rfl, hb⟩
    obtain ⟨c0, c1, c2, d0, d1, d2, f0, f1⟩ := two_blocks hb
    have hz : w.heap.size + 1 < w1.heap.size := by have := hb.size; simp at this; omega
    have hz0 : w.heap.size < w1.heap.size := by omega
    have hB := bel2t hb
    clear hb
    go_wp2
    refine bodyPost_ret (v := .tuple #[curV s at' 1, .string ⟨#[]⟩]) (by simp [results, Tryd.results16, go_sem, *]) rfl ⟨?_, ?_⟩
    · rfl
    · go_grown
  · have hm0 : most < (m : Int) := by omega
    clear hn
    go_enter Tryd.func16, Tryd.ntmps16
    go_wp2_with fail
    refine (HH.out _).mono ?_
    rintro e w1 ⟨rfl, hb⟩
    obtain ⟨c0, c1, c2, d0, d1, d2, f0, f1⟩ := two_blocks hb
    have hz : w.heap.size + 1 < w1.heap.size := by have := hb.size; simp at this; omega
    have hz0 : w.heap.size < w1.heap.size := by omega
    have hB := bel2t hb
    clear hb
    go_wp2
    refine bodyPost_ret (v := .tuple #[curV s at' 1, .string ⟨#[]⟩]) (by simp [results, Tryd.results16, go_sem, *]) rfl ⟨?_, ?_⟩
    · rfl
    · go_grown

set_option maxHeartbeats 1000000 in
theorem ctext_end (s : ByteArray) (at' p m : Nat) (most : Int) (w : World) (hs : s.size ≤ 1000000) (hm : m ≤ 18446744073709551615) (hmost : most ≤ 9223372036854775807) (hn : (m : Int) ≤ max most 0) (hp : p ≤ s.size) (he : s.size < p + m)
    (H : (∀ w, Calls Tryd.prog 12 #[curV s at' 0] w fun e w' => e = .returned (.tuple #[curV s p 0, .int .u64 m]) ∧ Below w.heap.size w w')) :
    Calls Tryd.prog 16 #[curV s at' 0, .int .i64 most] w fun e w' => e = .returned (.tuple #[curV s p 10, .string ByteArray.empty]) ∧ Below w.heap.size w w' := by
  have HH : Hid (∀ w, Calls Tryd.prog 12 #[curV s at' 0] w fun e w' => e = .returned (.tuple #[curV s p 0, .int .u64 m]) ∧ Below w.heap.size w w') := H
  clear H
  have hm1 : (m : Int) ≤ 18446744073709551615 := by omega
  have hpi : (p : Int) ≤ (s.size : Int) := by omega
  have hei : (s.size : Int) - (p : Int) < (m : Int) := by omega
  have hn0 : ¬ most < 0 := by omega
  have hm0 : (m : Int) ≤ most := by omega
  clear hn
  go_enter Tryd.func16, Tryd.ntmps16
  go_wp2_with fail
  refine (HH.out _).mono ?_
  rintro e w1 ⟨rfl, hb⟩
  obtain ⟨c0, c1, c2, d0, d1, d2, f0, f1⟩ := two_blocks hb
  have hz : w.heap.size + 1 < w1.heap.size := by have := hb.size; simp at this; omega
  have hz0 : w.heap.size < w1.heap.size := by omega
  have hB := bel2t hb
  clear hb
  go_wp2
  refine bodyPost_ret (v := .tuple #[curV s p 10, .string ⟨#[]⟩]) (by simp [results, Tryd.results16, go_sem, *]) rfl ⟨?_, ?_⟩
  · rfl
  · go_grown

set_option maxHeartbeats 1000000 in
theorem ctext_ok (s : ByteArray) (at' p m : Nat) (most : Int) (w : World) (hs : s.size ≤ 1000000) (hm : m ≤ 18446744073709551615) (hmost : most ≤ 9223372036854775807) (hn : (m : Int) ≤ max most 0) (hp : p ≤ s.size) (he : p + m ≤ s.size)
    (H : (∀ w, Calls Tryd.prog 12 #[curV s at' 0] w fun e w' => e = .returned (.tuple #[curV s p 0, .int .u64 m]) ∧ Below w.heap.size w w')) :
    Calls Tryd.prog 16 #[curV s at' 0, .int .i64 most] w fun e w' => e = .returned (.tuple #[curV s (p + m) 0, .string (s.extract p (p + m))]) ∧ Below w.heap.size w w' := by
  have HH : Hid (∀ w, Calls Tryd.prog 12 #[curV s at' 0] w fun e w' => e = .returned (.tuple #[curV s p 0, .int .u64 m]) ∧ Below w.heap.size w w') := H
  clear H
  have hm1 : (m : Int) ≤ 18446744073709551615 := by omega
  have hpi : (p : Int) ≤ (s.size : Int) := by omega
  have hei : (m : Int) ≤ (s.size : Int) - (p : Int) := by omega
  have hsl := slice_mid s p m he
  rcases Int.lt_or_le most 0 with hn0 | hn0
  · have hm0 : ¬ (0 : Int) < (m : Int) := by omega
    clear hn
    go_enter Tryd.func16, Tryd.ntmps16
    go_wp2_with fail
    refine (HH.out _).mono ?_
    rintro e w1 ⟨rfl, hb⟩
    obtain ⟨c0, c1, c2, d0, d1, d2, f0, f1⟩ := two_blocks hb
    have hz : w.heap.size + 1 < w1.heap.size := by have := hb.size; simp at this; omega
    have hz0 : w.heap.size < w1.heap.size := by omega
    have hB := bel2t hb
    clear hb
    go_wp2
    refine bodyPost_ret (v := .tuple #[curV s p 0, .string ByteArray.empty]) (by simp [results, Tryd.results16, go_sem, *]) rfl ⟨?_, ?_⟩
    · rfl
    · go_grown
  · have hm0 : (m : Int) ≤ most := by omega
    clear hn
    go_enter Tryd.func16, Tryd.ntmps16
    go_wp2_with fail
    refine (HH.out _).mono ?_
    rintro e w1 ⟨rfl, hb⟩
    obtain ⟨c0, c1, c2, d0, d1, d2, f0, f1⟩ := two_blocks hb
    have hz : w.heap.size + 1 < w1.heap.size := by have := hb.size; simp at this; omega
    have hz0 : w.heap.size < w1.heap.size := by omega
    have hB := bel2t hb
    clear hb
    go_wp2
    refine bodyPost_ret (v := .tuple #[.agg #[.string s, .int .i64 ((p : Int) + (m : Int)), .int .i64 0], .string (s.extract p (p + m))]) (by simp [results, Tryd.results16, go_sem, *]) rfl ⟨?_, ?_⟩
    · rfl
    · go_grown

theorem cdone_left (s : ByteArray) (at' : Nat) (w : World) (h : at' < s.size) :
    Calls Tryd.prog 23 #[curV s at' 0] w fun e w' => e = .returned (curV s at' 11) ∧ Below w.heap.size w w' := by
  have h : (at' : Int) < (s.size : Int) := by omega
  go_enter Tryd.func23, Tryd.ntmps23
  go_wp2
  exact bodyPost_ret (v := curV s at' 11) (by simp [results, Tryd.results23, go_sem]) rfl ⟨rfl, bel2 w _ _⟩
theorem cdone_same (s : ByteArray) (at' c : Nat) (w : World) (h : c ≠ 0 ∨ s.size ≤ at') :
    Calls Tryd.prog 23 #[curV s at' c] w fun e w' => e = .returned (curV s at' c) ∧ Below w.heap.size w w' := by
  by_cases h0 : c = 0
  · subst h0
    have h : ¬ (at' : Int) < (s.size : Int) := by omega
    go_enter Tryd.func23, Tryd.ntmps23
    go_wp2
    exact bodyPost_ret (v := curV s at' 0) (by simp [results, Tryd.results23, go_sem]) rfl ⟨rfl, bel2 w _ _⟩
  · have hb : ((c : Int) == 0) = false := beq_eq_false_iff_ne.2 (by omega)
    go_enter Tryd.func23, Tryd.ntmps23
    go_wp2
    exact bodyPost_ret (v := curV s at' c) (by simp [results, Tryd.results23, go_sem]) rfl ⟨rfl, bel2 w _ _⟩
end Go.Proofs.YticdikllfkfkfaaDoor
