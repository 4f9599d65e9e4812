/- dyad.levelled, Good, isCell, Cells. -/
import Derived.Test.YtkkbhkpeglcodaaGreatDoorRows
import Derived.Test.YtkkbhkpeglcodaaGreatDoorAid
import Derived.Test.YtkkbhkpeglcodaaGreatDoorDyHalf
import Derived.Test.YtkkbhkpeglcodaaGreatDoorDyNest
import Derived.WalkKit
import Derived.ProofKit
import Derived.OpenShut
import Derived.WalkLawsBesides
import Derived.Deep.QuietTactic
import Derived.BigQuiet
import Derived.RegionTactic
namespace Go.Proofs.YtkkbhkpeglcodaaGreatDoor
open Go.ChangeShapes Go.WideShapes Go.ChangeAt Go.RowKit
set_option linter.unusedVariables false

theorem dbel1 (w : World) (o : Obj) : Below w.heap.size w (w.alloc o) := (Below.refl _ _).alloc (Nat.le_refl _) _
theorem dbel2 (w : World) (o o' : Obj) : Below w.heap.size w ((w.alloc o).alloc o') := (dbel1 w o).alloc (by simp) _

theorem levelled_any (L : Int) (w : World) :
    Calls Tryz.prog 58 #[.int .i64 L] w fun e w' => e = .returned (.bool (decide (0 ≤ L ∧ L ≤ 8))) ∧ w' = w := by
  by_cases h : 0 ≤ L
  all_goals
    go_enter Tryz.func58, Tryz.ntmps58
    go_wp2
    go_ret
    exact ⟨ret_b (by simp <;> omega), rfl⟩
theorem levelled_yes (L : Int) (w : World) (h : 0 ≤ L ∧ L ≤ 8) : Calls Tryz.prog 58 #[.int .i64 L] w fun e w' => e = .returned (.bool true) ∧ w' = w := by
  refine (levelled_any L w).mono ?_
  rintro e w' ⟨rfl, rfl⟩
  exact ⟨ret_b (by simpa using h), rfl⟩
theorem levelled_no (L : Int) (w : World) (h : ¬ (0 ≤ L ∧ L ≤ 8)) : Calls Tryz.prog 58 #[.int .i64 L] w fun e w' => e = .returned (.bool false) ∧ w' = w := by
  refine (levelled_any L w).mono ?_
  rintro e w' ⟨rfl, rfl⟩
  exact ⟨ret_b (decide_eq_false h), rfl⟩

theorem wrap_pow {n : Nat} (h : n ≤ 8) : IntKind.i64.wrap (2 ^ n) = 2 ^ n := by
  have h1 : (2 : Int) ^ n = ((2 ^ n : Nat) : Int) := by simp
  have h2 := pow_le_256 h
  rw [h1]
  generalize 2 ^ n = p at h2
  exact IntWalk.i64_in _ (by omega)
theorem dbeld (w : World) (n : Nat) : Below w.heap.size w (w.drewN n) := ⟨rfl, rfl, rfl, Nat.le_refl _, fun _ _ => rfl⟩
theorem dbel1d (w : World) (o : Obj) (n : Nat) : Below w.heap.size w ((w.alloc o).drewN n) := (dbel1 w o).trans ((dbeld _ n).mono (by simp))
theorem not_good {x : Iv} {L : Int} (h : ¬ x.good L) : x.goodB L = false := decide_eq_false h

set_option maxHeartbeats 1000000 in
theorem good_any (x : Iv) (L : Int) (w : World) :
    Calls Tryz.prog 28 #[.agg #[.int .i64 x.lev, .int .i64 x.idx], .int .i64 L] w fun e w' => e = .returned (.bool (x.goodB L)) ∧ Below w.heap.size w w' := by
  obtain ⟨l, i⟩ := x
  by_cases hL : 0 ≤ L ∧ L ≤ 8
  · by_cases h1 : 0 ≤ l
    · by_cases h2 : l ≤ L
      · by_cases h3 : 0 ≤ i
        · obtain ⟨n, rfl⟩ : ∃ n : Nat, l = n := ⟨l.toNat, by omega⟩
          have hw := wrap_pow (n := n) (by omega)
          have HG : Hid ((Iv.mk n i).goodB L = decide (i < 2 ^ n)) := (by simp only [Iv.goodB, Iv.good, Int.toNat_natCast]; exact decide_eq_decide.2 ⟨fun h => h.2.2.2.2.2, fun h => ⟨hL.1, hL.2, by omega, by omega, by omega, h⟩⟩ : (Iv.mk n i).goodB L = decide (i < 2 ^ n))
          go_enter Tryz.func28, Tryz.ntmps28
          go_wp2_with fail
          go_quiet ((go_at_call 58; exact Calls.quiet_of_same (levelled_yes _ _ hL)))
          go_wp2
          go_ret
          exact ⟨by rw [HG.out]; refine ret_b ?_; simp, dbel1d _ _ _⟩
        · have hd : decide (0 ≤ i) = false := decide_eq_false h3
          have HG : Hid ((Iv.mk l i).goodB L = false) := (not_good fun h => h3 h.2.2.2.2.1 : (Iv.mk l i).goodB L = false)
          go_enter Tryz.func28, Tryz.ntmps28
          go_wp2_with fail
          go_quiet ((go_at_call 58; exact Calls.quiet_of_same (levelled_yes _ _ hL)))
          go_wp2
          go_ret
          exact ⟨by rw [HG.out]; rfl, dbel1d _ _ _⟩
      · have hd : decide (l ≤ L) = false := decide_eq_false h2
        have HG : Hid ((Iv.mk l i).goodB L = false) := (not_good fun h => h2 h.2.2.2.1 : (Iv.mk l i).goodB L = false)
        go_enter Tryz.func28, Tryz.ntmps28
        go_wp2_with fail
        go_quiet ((go_at_call 58; exact Calls.quiet_of_same (levelled_yes _ _ hL)))
        go_wp2
        go_ret
        exact ⟨by rw [HG.out]; rfl, dbel1d _ _ _⟩
    · have hd : decide (0 ≤ l) = false := decide_eq_false h1
      have HG : Hid ((Iv.mk l i).goodB L = false) := (not_good fun h => h1 h.2.2.1 : (Iv.mk l i).goodB L = false)
      go_enter Tryz.func28, Tryz.ntmps28
      go_wp2_with fail
      go_quiet ((go_at_call 58; exact Calls.quiet_of_same (levelled_yes _ _ hL)))
      go_wp2
      go_ret
      exact ⟨by rw [HG.out]; rfl, dbel1d _ _ _⟩
  · have HG : Hid ((Iv.mk l i).goodB L = false) := (not_good fun h => hL ⟨h.1, h.2.1⟩ : (Iv.mk l i).goodB L = false)
    go_enter Tryz.func28, Tryz.ntmps28
    go_wp2_with fail
    go_quiet ((go_at_call 58; exact Calls.quiet_of_same (levelled_no _ _ hL)))
    go_wp2
    go_ret
    exact ⟨by rw [HG.out]; rfl, dbel1d _ _ _⟩

set_option maxHeartbeats 1000000 in
theorem cells_no (x : Iv) (L : Int) (w : World) (h : ¬ x.good L) :
    Calls Tryz.prog 71 #[.agg #[.int .i64 x.lev, .int .i64 x.idx], .int .i64 L] w fun e w' => e = .returned (.tuple #[.int .i64 0, .int .i64 (-1)]) ∧ Below w.heap.size w w' := by
  have hc := fun w => good_any x L w
  rw [not_good h] at hc
  have HC : Hid _ := hc
  clear hc h
  go_enter Tryz.func71, Tryz.ntmps71
  go_wp2_with fail
  refine (HC.out _).mono ?_
  rintro e w' ⟨rfl, hb⟩
  have HB : Hid _ := (dbel1 w _).trans (hb.mono (by simp))
  clear hb
  go_wp2
  go_ret2
  exact ⟨rfl, HB.out⟩
set_option maxHeartbeats 1000000 in
theorem cells_yes (l i n : Nat) (w : World) (h1 : l ≤ n) (h2 : n ≤ 8) (h3 : i < 2 ^ l) :
    Calls Tryz.prog 71 #[.agg #[.int .i64 l, .int .i64 i], .int .i64 n] w fun e w' => e = .returned (.tuple #[.int .i64 ((i * 2 ^ (n - l) : Nat) : Int), .int .i64 (((i + 1) * 2 ^ (n - l) : Nat) - 1 : Int)]) ∧ Below w.heap.size w w' := by
  have hc := fun w => good_any ⟨l, i⟩ n w
  rw [show (Iv.mk l i).goodB n = true from decide_eq_true (Iv.good_of h1 h2 h3)] at hc
  have HC : Hid _ := hc
  have hs : ((n : Int) - (l : Int)).toNat = n - l := by omega
  have hbd : (i + 1) * 2 ^ (n - l) ≤ 256 := by
    refine Nat.le_trans (Nat.mul_le_mul_right _ h3) ?_
    rw [← pow_split h1]; exact pow_le_256 h2
  have hbi : i * 2 ^ (n - l) ≤ 256 := Nat.le_trans (Nat.mul_le_mul_right _ (by omega)) hbd
  have hi : i ≤ 256 := by have := pow_le_256 (show l ≤ 8 by omega); omega
  have hp : 1 ≤ (i + 1) * 2 ^ (n - l) := Nat.mul_pos (by omega) (pow_pos2 _)
  have e1 : IntKind.i64.wrap ((i : Int) * 2 ^ (n - l)) = ((i * 2 ^ (n - l) : Nat) : Int) := by
    have : (i : Int) * 2 ^ (n - l) = ((i * 2 ^ (n - l) : Nat) : Int) := by simp
    rw [this]; exact IntWalk.i64_in _ (by omega)
  have e2 : IntKind.i64.wrap (((i : Int) + 1) * 2 ^ (n - l)) = (((i + 1) * 2 ^ (n - l) : Nat) : Int) := by
    have : ((i : Int) + 1) * 2 ^ (n - l) = (((i + 1) * 2 ^ (n - l) : Nat) : Int) := by simp
    rw [this]; exact IntWalk.i64_in _ (by omega)
  generalize i * 2 ^ (n - l) = A at e1 hbi
  generalize (i + 1) * 2 ^ (n - l) = B at e2 hbd hp
  clear hc h3
  go_enter Tryz.func71, Tryz.ntmps71
  go_wp2_with fail
  refine (HC.out _).mono ?_
  rintro e w' ⟨rfl, hb⟩
  have HB : Hid _ := (dbel1 w _).trans (hb.mono (by simp))
  have c0 := hb.cell (p := ⟨w.heap.size, 0, none⟩) (by simp)
  have c1 := hb.cell (p := ⟨w.heap.size, 1, none⟩) (by simp)
  simp at c0 c1
  clear hb
  go_wp2_with fail
  go_quiet (fail)
  go_wp2
  go_ret2
  refine ⟨?_, HB.out.trans ((dbeld _ _).mono HB.out.size)⟩
  simp
theorem cells_any (x : Iv) (L : Int) (w : World) :
    Calls Tryz.prog 71 #[.agg #[.int .i64 x.lev, .int .i64 x.idx], .int .i64 L] w fun e w' => e = .returned (.tuple #[.int .i64 (x.fst L), .int .i64 (x.lst L)]) ∧ Below w.heap.size w w' := by
  by_cases h : x.good L
  · obtain ⟨l, i, n, rfl, rfl, h1, h2, h3⟩ := Iv.good_nat h
    rw [Iv.fst_nat h1 h2 h3, Iv.lst_nat h1 h2 h3]
    exact cells_yes l i n w h1 h2 h3
  · have e1 : x.fst L = 0 := if_neg h
    have e2 : x.lst L = -1 := if_neg h
    rw [e1, e2]
    exact cells_no x L w h
theorem good_yes (x : Iv) (L : Int) (w : World) (h : x.good L) :
    Calls Tryz.prog 28 #[.agg #[.int .i64 x.lev, .int .i64 x.idx], .int .i64 L] w fun e w' => e = .returned (.bool true) ∧ Below w.heap.size w w' := by
  have := good_any x L w
  rw [show x.goodB L = true from decide_eq_true h] at this
  exact this
theorem good_no (x : Iv) (L : Int) (w : World) (h : ¬ x.good L) :
    Calls Tryz.prog 28 #[.agg #[.int .i64 x.lev, .int .i64 x.idx], .int .i64 L] w fun e w' => e = .returned (.bool false) ∧ Below w.heap.size w w' := by
  have := good_any x L w
  rw [not_good h] at this
  exact this
end Go.Proofs.YtkkbhkpeglcodaaGreatDoor
