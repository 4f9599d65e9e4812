/- dyad.Range. -/
import Derived.Test.YtkkbhkpeglcodaaGreatDoorDyCell
import Derived.Deep.RegionWith
namespace Go.Proofs.YtkkbhkpeglcodaaGreatDoor
open Go.ChangeShapes Go.WideShapes Go.ChangeAt Go.RowKit
set_option linter.unusedVariables false

theorem rangeOf_1 {a : At} {p : Pd} {L : Int} (h : p.op = 1) : rangeOf a p L = (cellOf a ⟨p.lo, ByteArray.empty⟩ L, cellOf a ⟨p.hi, ByteArray.empty⟩ L) := if_pos h
theorem rangeOf_2 {a : At} {p : Pd} {L : Int} (h : p.op = 2) : rangeOf a p L = (cellOf a ⟨0, p.str⟩ L, cellOf a ⟨0, p.str⟩ L) := by
  unfold rangeOf; rw [if_neg (by omega), if_pos h]
theorem rangeOf_3 {a : At} {p : Pd} {L : Int} (h1 : ¬ p.op = 1) (h2 : ¬ p.op = 2) : rangeOf a p L = (cellOf a ⟨0, p.str⟩ L, cellOf a ⟨0, p.str ++ ⟨#[255, 255]⟩⟩ L) := by
  unfold rangeOf; rw [if_neg h1, if_neg h2]

set_option maxRecDepth 100000 in
set_option maxHeartbeats 1000000 in
theorem range_any (a : At) (p : Pd) (L : Int) (w : World) (hs : p.str.size ≤ 9223372036854775000) :
    Calls Tryz.prog 68 #[.agg #[.string a.name, .int .i64 a.kind, .int .i64 a.mn, .int .i64 a.mx], .agg #[.string p.name, .int .i64 p.op, .int .i64 p.lo, .int .i64 p.hi, .string p.str], .int .i64 L] w
      fun e w' => e = .returned (.tuple #[.int .i64 (rangeOf a p L).1, .int .i64 (rangeOf a p L).2]) ∧ Below w.heap.size w w' := by
  obtain ⟨W0, hW0⟩ : ∃ W0, W0 = (w.alloc (.cells #[.string a.name, .int .i64 a.kind, .int .i64 a.mn, .int .i64 a.mx] 79)).alloc (.cells #[.string p.name, .int .i64 p.op, .int .i64 p.lo, .int .i64 p.hi, .string p.str] 81) := ⟨_, rfl⟩
  have hbw : Below w.heap.size w W0 := by rw [hW0]; exact dbel2 _ _ _
  have f0 : W0.cell? ⟨w.heap.size, 0, none⟩ = some (.string a.name) := by rw [hW0]; simp
  have f1 : W0.cell? ⟨w.heap.size, 1, none⟩ = some (.int .i64 a.kind) := by rw [hW0]; simp
  have f2 : W0.cell? ⟨w.heap.size, 2, none⟩ = some (.int .i64 a.mn) := by rw [hW0]; simp
  have f3 : W0.cell? ⟨w.heap.size, 3, none⟩ = some (.int .i64 a.mx) := by rw [hW0]; simp
  have g2 : W0.cell? ⟨w.heap.size + 1, 2, none⟩ = some (.int .i64 p.lo) := by rw [hW0]; simp
  have g3 : W0.cell? ⟨w.heap.size + 1, 3, none⟩ = some (.int .i64 p.hi) := by rw [hW0]; simp
  have g4 : W0.cell? ⟨w.heap.size + 1, 4, none⟩ = some (.string p.str) := by rw [hW0]; simp
  obtain ⟨ι, F, _, hF0, hFb, hFc⟩ := grown_fam W0
  have F0 : ∀ i, (F i).cell? ⟨w.heap.size, 0, none⟩ = some (.string a.name) := fun i => cell_grown f0 (hFb i)
  have F1 : ∀ i, (F i).cell? ⟨w.heap.size, 1, none⟩ = some (.int .i64 a.kind) := fun i => cell_grown f1 (hFb i)
  have F2 : ∀ i, (F i).cell? ⟨w.heap.size, 2, none⟩ = some (.int .i64 a.mn) := fun i => cell_grown f2 (hFb i)
  have F3 : ∀ i, (F i).cell? ⟨w.heap.size, 3, none⟩ = some (.int .i64 a.mx) := fun i => cell_grown f3 (hFb i)
  have G2 : ∀ i, (F i).cell? ⟨w.heap.size + 1, 2, none⟩ = some (.int .i64 p.lo) := fun i => cell_grown g2 (hFb i)
  have G3 : ∀ i, (F i).cell? ⟨w.heap.size + 1, 3, none⟩ = some (.int .i64 p.hi) := fun i => cell_grown g3 (hFb i)
  have G4 : ∀ i, (F i).cell? ⟨w.heap.size + 1, 4, none⟩ = some (.string p.str) := fun i => cell_grown g4 (hFb i)
  have HF : Hid ((∃ i, { W0 with drawn := W0.drawn + 1 } = F i) ∧ (∀ i, Below W0.heap.size W0 (F i)) ∧ (∀ i W, Below W0.heap.size (F i) W → ∃ j, W = F j)) := ⟨hF0, hFb, hFc⟩
  have HB0 : Hid (Below w.heap.size w W0) := hbw
  clear hF0 hFb hFc hbw f0 f1 f2 f3 g2 g3 g4
  by_cases h1 : p.op = 1
  · rw [rangeOf_1 h1]
    rw [h1] at hW0
    have HC1 : Hid _ := fun W => cell_any a ⟨p.lo, ByteArray.empty⟩ L W (Nat.zero_le _)
    have HC2 : Hid _ := fun W => cell_any a ⟨p.hi, ByteArray.empty⟩ L W (Nat.zero_le _)
    generalize cellOf a ⟨p.lo, ByteArray.empty⟩ L = r1 at *
    generalize cellOf a ⟨p.hi, ByteArray.empty⟩ L = r2 at *
    go_enter Tryz.func68, Tryz.ntmps68
    go_wp2_with fail
    rw [← hW0]
    refine wp_region_fam F HF.out.1 (by kernel_rfl) (by kernel_rfl) ?_
    repeat (go_big_quiet_step (first
      | (go_at_call_of 49 (Value.int .i64 p.lo); refine Calls.mono (HC1.out _) ?_; rintro e' w' ⟨hs, hb⟩; exact ⟨hs, HF.out.2.2 _ _ (hb.mono (HF.out.2.1 _).size)⟩)
      | (go_at_call_of 49 (Value.int .i64 p.hi); refine Calls.mono (HC2.out _) ?_; rintro e' w' ⟨hs, hb⟩; exact ⟨hs, HF.out.2.2 _ _ (hb.mono (HF.out.2.1 _).size)⟩)))
    refine wpQuiet_nil ?_
    rintro _ ⟨i, rfl⟩
    have BF := HB0.out.trans ((HF.out.2.1 i).mono HB0.out.size)
    go_wp2
    go_ret2
    exact ⟨rfl, BF⟩
  · by_cases h2 : p.op = 2
    · rw [rangeOf_2 h2]
      have HC1 : Hid _ := fun W => cell_any a ⟨0, p.str⟩ L W (by unfold maxLen; simp; omega)
      generalize cellOf a ⟨0, p.str⟩ L = r1 at *
      clear F0 F1 F2 F3 G2 G3 G4 HF hW0 HB0 h1
      go_enter Tryz.func68, Tryz.ntmps68
      go_wp2_with fail
      refine Calls.mono (HC1.out _) ?_
      rintro e w1 ⟨rfl, hb1⟩
      have HB1 : Hid (Below w.heap.size w w1) := (dbel2 w _ _).trans (hb1.mono (by simp; omega))
      clear hb1
      go_wp2
      go_ret2
      exact ⟨rfl, HB1.out⟩
    · rw [rangeOf_3 h1 h2]
      have HC1 : Hid _ := fun W => cell_any a ⟨0, p.str⟩ L W (by unfold maxLen; simp; omega)
      have HC2 : Hid _ := fun W => cell_any a ⟨0, p.str ++ ⟨#[255, 255]⟩⟩ L W (by
        unfold maxLen
        have : (p.str ++ (⟨#[255, 255]⟩ : ByteArray)).size = p.str.size + 2 := by rw [ByteArray.size_append]; rfl
        simp only; rw [this]; omega)
      generalize cellOf a ⟨0, p.str⟩ L = r1 at *
      generalize cellOf a ⟨0, p.str ++ ⟨#[255, 255]⟩⟩ L = r2 at *
      go_enter Tryz.func68, Tryz.ntmps68
      go_wp2_with fail
      rw [← hW0]
      refine wp_region_fam F HF.out.1 (by kernel_rfl) (by kernel_rfl) ?_
      repeat (go_big_quiet_step (first
        | (go_at_call_of 49 (Value.string p.str); refine Calls.mono (HC1.out _) ?_; rintro e' w' ⟨hs, hb⟩; exact ⟨hs, HF.out.2.2 _ _ (hb.mono (HF.out.2.1 _).size)⟩)
        | (go_at_call 49; refine Calls.mono (HC2.out _) ?_; rintro e' w' ⟨hs, hb⟩; exact ⟨hs, HF.out.2.2 _ _ (hb.mono (HF.out.2.1 _).size)⟩)))
      refine wpQuiet_nil ?_
      rintro _ ⟨i, rfl⟩
      have BF := HB0.out.trans ((HF.out.2.1 i).mono HB0.out.size)
      go_wp2
      go_ret2
      exact ⟨rfl, BF⟩
end Go.Proofs.YtkkbhkpeglcodaaGreatDoor
