/- board.rising; slices.SortFunc of pairs by it. -/
import Derived.Test.YtkncpojijfeahaaGreatDoorJoinBkBase
import Derived.Test.YtkncpojijfeahaaGreatDoorShelfC
import Derived.LoopN
import Derived.Deep.RegionHeld3
import Derived.Deep.QuietTactic
import Derived.BigQuiet
namespace Go.Proofs.YtkncpojijfeahaaGreatDoor
open Go.ChangeShapes Go.WideShapes Go.ChangeAt Go.RowKit Go.Sort
set_option linter.unusedVariables false

def cfI2 (x y : Int) : Int := if x < y then -1 else if y < x then 1 else 0
theorem cf2_lt (x y : Int) : cfI2 x y < 0 ↔ x < y := by
  unfold cfI2
  split
  · rename_i h; exact ⟨fun _ => h, fun _ => by decide⟩
  · rename_i h
    split
    · exact ⟨fun q => absurd q (by decide), fun q => absurd q h⟩
    · exact ⟨fun q => absurd q (by decide), fun q => absurd q h⟩
theorem cf2_zero (x y : Int) : cfI2 x y = 0 ↔ x = y := by
  unfold cfI2
  split
  · rename_i h; exact ⟨fun q => absurd q (by decide), fun q => by omega⟩
  · rename_i h
    split
    · rename_i h2; exact ⟨fun q => absurd q (by decide), fun q => by omega⟩
    · rename_i h2; exact ⟨fun _ => by omega, fun _ => rfl⟩
def cfP (a b : Int × Int) : Int := if cfI2 a.1 b.1 ≠ 0 then cfI2 a.1 b.1 else cfI2 a.2 b.2
theorem cfP_lt (a b : Int × Int) : cfP a b < 0 ↔ ltP a b := by
  unfold cfP ltP
  split
  · rename_i h
    rw [cf2_lt]
    have : a.1 ≠ b.1 := fun e => h ((cf2_zero _ _).2 e)
    omega
  · rename_i h
    have : a.1 = b.1 := (cf2_zero _ _).1 (by simpa using h)
    rw [cf2_lt]; omega
theorem nan_int (x : Int) (w : World) : Calls Tryz.prog 85 #[.int .i64 x] w fun e w' => e = .returned (.bool false) ∧ w' = w := by
  have e : (x != x) = false := by simp
  go_enter Tryz.func85, Tryz.ntmps85
  go_wp2
  go_ret
  exact ⟨rfl, rfl⟩
theorem cmp_int (x y : Int) (w : World) : Calls Tryz.prog 53 #[.int .i64 x, .int .i64 y] w fun e w' => e = .returned (.int .i64 (cfI2 x y)) ∧ w' = w := by
  by_cases h1 : x < y
  · have E : Hid (cfI2 x y = -1) := (by unfold cfI2; rw [if_pos h1] : cfI2 x y = -1)
    go_enter Tryz.func53, Tryz.ntmps53
    go_wp2_with (go_at_call 85; refine (nan_int _ _).mono ?_; rintro e w' ⟨rfl, rfl⟩)
    go_ret
    exact ⟨ret_i E.out.symm, rfl⟩
  · by_cases h2 : y < x
    · have E : Hid (cfI2 x y = 1) := (by unfold cfI2; rw [if_neg h1, if_pos h2] : cfI2 x y = 1)
      go_enter Tryz.func53, Tryz.ntmps53
      go_wp2_with (go_at_call 85; refine (nan_int _ _).mono ?_; rintro e w' ⟨rfl, rfl⟩)
      go_ret
      exact ⟨ret_i E.out.symm, rfl⟩
    · have E : Hid (cfI2 x y = 0) := (by unfold cfI2; rw [if_neg h1, if_neg h2] : cfI2 x y = 0)
      go_enter Tryz.func53, Tryz.ntmps53
      go_wp2_with (go_at_call 85; refine (nan_int _ _).mono ?_; rintro e w' ⟨rfl, rfl⟩)
      go_ret
      exact ⟨ret_i E.out.symm, rfl⟩
theorem or_two (b : Nat) (x y : Int) (w : World) (h0 : w.cell? ⟨b, 0, none⟩ = some (.int .i64 x)) (h1 : w.cell? ⟨b, 1, none⟩ = some (.int .i64 y)) :
    Calls Tryz.prog 52 #[.slice (some ⟨b, 0, none⟩) 2 2] w fun e w' => e = .returned (.int .i64 (if x ≠ 0 then x else y)) ∧ w' = w := by
  have hl := cell_block h0
  by_cases hx : x = 0
  · subst hx
    by_cases hy : y = 0
    · subst hy
      go_enter Tryz.func52, Tryz.ntmps52
      go_wp2
      refine wp_loop_rounds 3 ?_
      rw [rounds_succ]
      go_wp2
      rw [rounds_succ]
      go_wp2
      rw [rounds_succ]
      go_wp2
      go_ret
      exact ⟨rfl, rfl⟩
    · go_enter Tryz.func52, Tryz.ntmps52
      go_wp2
      refine wp_loop_rounds 2 ?_
      rw [rounds_succ]
      go_wp2
      rw [rounds_succ]
      go_wp2
      go_ret
      exact ⟨by simp, rfl⟩
  · go_enter Tryz.func52, Tryz.ntmps52
    go_wp2
    refine wp_loop_rounds 1 ?_
    rw [rounds_succ]
    go_wp2
    go_ret
    exact ⟨rfl, rfl⟩
theorem grow_last (W : World) (os : Array Obj) (o : Obj) : ((grow W os).alloc o).drew = grow (W.drewN 1) (os ++ #[o]) := by rw [alloc_eq_grow, grow_grow]; rfl
def encW (x : Int × Int) : List Value := [.int .i64 x.1, .int .i64 x.2]

set_option maxRecDepth 100000 in
set_option maxHeartbeats 2000000 in
theorem rising_any (a b : Int × Int) (W : World) : Calls Tryz.prog 30 #[.agg #[.int .i64 a.1, .int .i64 a.2], .agg #[.int .i64 b.1, .int .i64 b.2]] W fun e w' => e = .returned (.int .i64 (cfP a b)) ∧ ∃ q os', w' = grow (W.drewN q) os' := by
  obtain ⟨a1, a2⟩ := a
  obtain ⟨b1, b2⟩ := b
  have HP : Hid (cfP (a1, a2) (b1, b2) = if cfI2 a1 b1 ≠ 0 then cfI2 a1 b1 else cfI2 a2 b2) := rfl
  obtain ⟨W1, hW1⟩ : ∃ W1, W1 = (W.alloc (.cells #[.int .i64 a1, .int .i64 a2] 44)).alloc (.cells #[.int .i64 b1, .int .i64 b2] 44) := ⟨_, rfl⟩
  have x0 : W1.cell? ⟨W.heap.size, 0, none⟩ = some (.int .i64 a1) := by rw [hW1]; simp
  have x1 : W1.cell? ⟨W.heap.size, 1, none⟩ = some (.int .i64 a2) := by rw [hW1]; simp
  have y0 : W1.cell? ⟨W.heap.size + 1, 0, none⟩ = some (.int .i64 b1) := by rw [hW1]; simp
  have y1 : W1.cell? ⟨W.heap.size + 1, 1, none⟩ = some (.int .i64 b2) := by rw [hW1]; simp
  have xl := cell_block x0
  have yl := cell_block y0
  have HG : Hid (∃ os, W1 = grow W os) := ⟨_, by rw [hW1, alloc_eq_grow, alloc_eq_grow, grow_grow]⟩
  go_enter Tryz.func30, Tryz.ntmps30
  go_upto_region 1 with fail
  rw [← hW1]
  clear hW1
  go_region_held3 (fun W' => W'.cell? ⟨W.heap.size, 0, none⟩ = some (.int .i64 a1) ∧ W'.cell? ⟨W.heap.size, 1, none⟩ = some (.int .i64 a2) ∧ W'.cell? ⟨W.heap.size + 1, 0, none⟩ = some (.int .i64 b1) ∧ W'.cell? ⟨W.heap.size + 1, 1, none⟩ = some (.int .i64 b2))
    (first
      | go_keep
      | assumption
      | (refine ⟨?_, ?_, ?_, ?_⟩ <;> simp [*]))
    (first
      | (go_at_call 53; refine (cmp_int _ _ _).mono ?_; rintro e w' ⟨rfl, hw'⟩; subst w')
      | (go_at_call 52; refine (or_two _ (cfI2 a1 b1) (cfI2 a2 b2) _ (by simp) (by simp)).mono ?_; rintro e w' ⟨he, hw'⟩; subst w'; rw [← HP.out] at he; subst he))
  all_goals
    go_wp2
    go_ret
    obtain ⟨os, hos⟩ := HG.out
    refine ⟨rfl, 1, os ++ #[.cells #[.int .i64 (cfI2 a1 b1), .int .i64 (cfI2 a2 b2)] 3], ?_⟩
    subst hos
    exact grow_last W os _
end Go.Proofs.YtkncpojijfeahaaGreatDoor
