/- wigwagref07.Power, Cell, Range. -/
import Derived.Test.YtkkbhkpeglcodaaGreatDoorDyRange
import Derived.Test.YtkkbhkpeglcodaaGreatDoorDyFine
import Derived.Deep.LoopGhost
namespace Go.Proofs.YtkkbhkpeglcodaaGreatDoor
open Go.ChangeShapes Go.WideShapes Go.ChangeAt Go.RowKit
set_option linter.unusedVariables false

theorem pow_le_62 {n m : Nat} (h : n ≤ m) (hm : m ≤ 16) : 2 ^ n ≤ 65536 := Nat.le_trans (Nat.pow_le_pow_right (by omega) (show n ≤ 16 by omega)) (by decide)
set_option maxHeartbeats 1000000 in
theorem power_any (n : Nat) (w : World) (hn : n ≤ 16) :
    Calls Tryz.prog 30 #[.int .i64 n] w fun e w' => e = .returned (.int .i64 ((2 ^ n : Nat) : Int)) ∧ w' = w := by
  go_enter Tryz.func30, Tryz.ntmps30
  go_wp2
  go_loop [3, 4] (fun p i => ∃ k : Nat, k ≤ n ∧ i = .int .i64 k ∧ p = .int .i64 ((2 ^ k : Nat) : Int)) (fun _ i => n - (intOf i).toNat)
  case atStart => exact ⟨0, Nat.zero_le _, rfl, rfl⟩
  case round =>
    obtain ⟨k, hk, rfl, rfl⟩ := hrel
    have hp := pow_le_62 hk hn
    have HP : Hid (2 ^ (k + 1) = 2 ^ k * 2) := (Nat.pow_succ 2 k : 2 ^ (k + 1) = 2 ^ k * 2)
    by_cases hlt : k < n
    · generalize 2 ^ k = P at *
      go_wp2
      go_round
      case rel => exact ⟨k + 1, by omega, by go_num, by rw [HP.out]; refine congrArg (Value.int .i64) ?_; omega⟩
      case measure => simp [intOf]; omega
    · obtain rfl : k = n := by omega
      obtain ⟨P, hP⟩ : ∃ P, P = 2 ^ k := ⟨_, rfl⟩
      rw [← hP]
      have HPP : Hid (P = 2 ^ k) := hP
      clear hP HP hp
      go_wp2
      go_ret
      exact ⟨by show Ending.returned (.int .i64 (P : Int)) = _; rw [HPP.out]; exact ret_i (by simp), rfl⟩

theorem w64_tdiv {X D : Int} (h1 : 0 ≤ X) (h2 : X ≤ 1099511627776) (hD : 0 < D) : wrap64 ((wrap64 X).tdiv D) = X / D := by
  rw [w64_in (n := X) (by omega) (by omega), Int.tdiv_eq_ediv_of_nonneg h1]
  exact w64_in (by have := Int.ediv_nonneg h1 (show 0 ≤ D by omega); omega) (by have := Int.ediv_le_self D h1; omega)

set_option maxRecDepth 100000 in
set_option maxHeartbeats 2000000 in
theorem rcell_any (a : At) (v : Vl) (L : Int) (w : World) (hs : v.str.size ≤ maxLen) :
    Calls Tryz.prog 53 #[.agg #[.string a.name, .int .i64 a.kind, .int .i64 a.mn, .int .i64 a.mx], .agg #[.int .i64 v.num, .string v.str], .int .i64 L] w fun e w' => e = .returned (.int .i64 (cellOf a v L)) ∧ Below w.heap.size w w' := by
  by_cases hL : 0 ≤ L ∧ L ≤ 8
  · have HL : Hid (0 ≤ L ∧ L ≤ 8) := hL
    obtain ⟨n, rfl⟩ : ∃ n : Nat, L = n := ⟨L.toNat, by omega⟩
    have hn : n ≤ 8 := by omega
    clear hL
    obtain ⟨nm, kd, mn, mx⟩ := a
    obtain ⟨nu, st⟩ := v
    by_cases hk : kd = 1
    · subst hk
      by_cases hr : -2147483648 ≤ mn ∧ mx ≤ 2147483648 ∧ mn ≤ nu ∧ nu ≤ mx
      · obtain ⟨h1, h2, h3, h4⟩ := hr
        have HE : Hid (cellOf ⟨nm, 1, mn, mx⟩ ⟨nu, st⟩ n = (nu - mn) * ((2 ^ n : Nat) : Int) / (mx - mn + 1)) := (by rw [cellOf_num HL.out rfl ⟨h1, h2, h3, h4⟩, Int.toNat_natCast, powI] : cellOf ⟨nm, 1, mn, mx⟩ ⟨nu, st⟩ n = (nu - mn) * ((2 ^ n : Nat) : Int) / (mx - mn + 1))
        have hp := prod_bd (x := nu - mn) (n := n) (by omega) (by omega) hn
        rw [powI] at hp
        have HPW : Hid _ := fun W => power_any n W (by omega)
        have h256 := pow_le_256 hn
        generalize 2 ^ n = P at *
        have HW : Hid (wrap64 ((wrap64 ((nu - mn) * (P : Int))).tdiv (mx - mn + 1)) = (nu - mn) * (P : Int) / (mx - mn + 1)) := w64_tdiv hp.1 hp.2 (by omega)
        have hD : ¬ (mx - mn + 1 = 0) := by omega
        clear hp
        go_enter Tryz.func53, Tryz.ntmps53
        go_wp2_with fail
        go_quiet ((go_at_call 30; exact Calls.quiet_of_same (HPW.out _)))
        go_wp2
        go_ret
        refine ⟨?_, (dbel2 w _ _).trans ((dbeld _ _).mono (by simp; omega))⟩
        rw [HE.out]
        exact ret_i HW.out
      · have HE : Hid (cellOf ⟨nm, 1, mn, mx⟩ ⟨nu, st⟩ n = -1) := (cellOf_out HL.out rfl hr : cellOf ⟨nm, 1, mn, mx⟩ ⟨nu, st⟩ n = -1)
        rw [HE.out]
        by_cases h3 : mn ≤ nu
        · by_cases h4 : nu ≤ mx
          · by_cases h1 : -2147483648 ≤ mn
            · have h2 : ¬ mx ≤ 2147483648 := fun h => hr ⟨h1, h, h3, h4⟩
              clear hr
              go_enter Tryz.func53, Tryz.ntmps53
              go_wp2
              go_ret
              exact ⟨rfl, dbel2 _ _ _⟩
            · clear hr
              go_enter Tryz.func53, Tryz.ntmps53
              go_wp2
              go_ret
              exact ⟨rfl, dbel2 _ _ _⟩
          · clear hr
            go_enter Tryz.func53, Tryz.ntmps53
            go_wp2
            go_ret
            exact ⟨rfl, dbel2 _ _ _⟩
        · clear hr
          go_enter Tryz.func53, Tryz.ntmps53
          go_wp2
          go_ret
          exact ⟨rfl, dbel2 _ _ _⟩
    · have HE : Hid (cellOf ⟨nm, kd, mn, mx⟩ ⟨nu, st⟩ n = ((tnum st / 2 ^ (16 - n) : Nat) : Int)) := (by rw [cellOf_text HL.out hk, Int.toNat_natCast] : cellOf ⟨nm, kd, mn, mx⟩ ⟨nu, st⟩ n = ((tnum st / 2 ^ (16 - n) : Nat) : Int))
      have hs' : st.size ≤ 9223372036854775807 := hs
      have HPW := fun W => power_any (16 - n) W (by omega)
      rw [show ((16 - n : Nat) : Int) = 16 - (n : Int) by omega] at HPW
      have HPW : Hid _ := HPW
      have hp1 := pow_pos2 (16 - n)
      have hp2 := pow_le_62 (show 16 - n ≤ 16 by omega) (Nat.le_refl _)
      rw [HE.out]
      by_cases h0 : 0 < st.size
      · by_cases h1 : 1 < st.size
        · have hb0 := st[0].toNat_lt
          have hb1 := st[1].toNat_lt
          have HT : Hid (tnum st = st[0].toNat * 256 + st[1].toNat) := (by unfold tnum; rw [dif_pos h0, dif_pos h1] : tnum st = st[0].toNat * 256 + st[1].toNat)
          rw [HT.out]
          generalize 2 ^ (16 - n) = P at *
          go_enter Tryz.func53, Tryz.ntmps53
          go_wp2_with (go_at_call 30; refine Calls.mono (HPW.out _) ?_; rintro e w' ⟨rfl, rfl⟩)
          go_ret
          refine ⟨ret_i ?_, dbel2 _ _ _⟩
          rw [Int.natCast_ediv]; congr 1; simp [Int.mul_comm]
        · have hb0 := st[0].toNat_lt
          have HT : Hid (tnum st = st[0].toNat * 256) := (by unfold tnum; rw [dif_pos h0, dif_neg h1]; exact Nat.add_zero _ : tnum st = st[0].toNat * 256)
          rw [HT.out]
          generalize 2 ^ (16 - n) = P at *
          go_enter Tryz.func53, Tryz.ntmps53
          go_wp2_with (go_at_call 30; refine Calls.mono (HPW.out _) ?_; rintro e w' ⟨rfl, rfl⟩)
          go_ret
          refine ⟨ret_i ?_, dbel2 _ _ _⟩
          rw [Int.natCast_ediv]; congr 1; simp [Int.mul_comm]
      · have h1 : ¬ 1 < st.size := by omega
        have HT : Hid (tnum st = 0) := (by unfold tnum; rw [dif_neg h0, dif_neg h1] : tnum st = 0)
        rw [HT.out]
        generalize 2 ^ (16 - n) = P at *
        go_enter Tryz.func53, Tryz.ntmps53
        go_wp2_with (go_at_call 30; refine Calls.mono (HPW.out _) ?_; rintro e w' ⟨rfl, rfl⟩)
        go_ret
        refine ⟨ret_i ?_, dbel2 _ _ _⟩
        simp
  · have HE : Hid (cellOf a v L = -1) := (cellOf_bad hL : cellOf a v L = -1)
    rw [HE.out]
    by_cases h0 : L < 0
    · go_enter Tryz.func53, Tryz.ntmps53
      go_wp2
      go_ret
      exact ⟨rfl, dbel2 _ _ _⟩
    · have h1 : 8 < L := by omega
      go_enter Tryz.func53, Tryz.ntmps53
      go_wp2
      go_ret
      exact ⟨rfl, dbel2 _ _ _⟩

set_option maxRecDepth 100000 in
set_option maxHeartbeats 1000000 in
theorem rrange_any (a : At) (p : Pd) (L : Int) (w : World) (hs : p.str.size ≤ 9223372036854775000) :
    Calls Tryz.prog 42 #[.agg #[.string a.name, .int .i64 a.kind, .int .i64 a.mn, .int .i64 a.mx], .agg #[.string p.name, .int .i64 p.op, .int .i64 p.lo, .int .i64 p.hi, .string p.str], .int .i64 L] w
      fun e w' => e = .returned (.tuple #[.int .i64 (rangeOf a p L).1, .int .i64 (rangeOf a p L).2]) ∧ Below w.heap.size w w' := by
  by_cases h1 : p.op = 1
  · obtain ⟨W0, hW0⟩ : ∃ W0, W0 = (w.alloc (.cells #[.string a.name, .int .i64 a.kind, .int .i64 a.mn, .int .i64 a.mx] 89)).alloc (.cells #[.string p.name, .int .i64 p.op, .int .i64 p.lo, .int .i64 p.hi, .string p.str] 90) := ⟨_, rfl⟩
    have hbw : Below w.heap.size w W0 := by rw [hW0]; exact dbel2 _ _ _
    have f0 : W0.cell? ⟨w.heap.size, 0, none⟩ = some (.string a.name) := by rw [hW0]; simp
    have f1 : W0.cell? ⟨w.heap.size, 1, none⟩ = some (.int .i64 a.kind) := by rw [hW0]; simp
    have f2 : W0.cell? ⟨w.heap.size, 2, none⟩ = some (.int .i64 a.mn) := by rw [hW0]; simp
    have f3 : W0.cell? ⟨w.heap.size, 3, none⟩ = some (.int .i64 a.mx) := by rw [hW0]; simp
    have g2 : W0.cell? ⟨w.heap.size + 1, 2, none⟩ = some (.int .i64 p.lo) := by rw [hW0]; simp
    have g3 : W0.cell? ⟨w.heap.size + 1, 3, none⟩ = some (.int .i64 p.hi) := by rw [hW0]; simp
    obtain ⟨ι, F, _, hF0, hFb, hFc⟩ := grown_fam W0
    have F0 : ∀ i, (F i).cell? ⟨w.heap.size, 0, none⟩ = some (.string a.name) := fun i => cell_grown f0 (hFb i)
    have F1 : ∀ i, (F i).cell? ⟨w.heap.size, 1, none⟩ = some (.int .i64 a.kind) := fun i => cell_grown f1 (hFb i)
    have F2 : ∀ i, (F i).cell? ⟨w.heap.size, 2, none⟩ = some (.int .i64 a.mn) := fun i => cell_grown f2 (hFb i)
    have F3 : ∀ i, (F i).cell? ⟨w.heap.size, 3, none⟩ = some (.int .i64 a.mx) := fun i => cell_grown f3 (hFb i)
    have G2 : ∀ i, (F i).cell? ⟨w.heap.size + 1, 2, none⟩ = some (.int .i64 p.lo) := fun i => cell_grown g2 (hFb i)
    have G3 : ∀ i, (F i).cell? ⟨w.heap.size + 1, 3, none⟩ = some (.int .i64 p.hi) := fun i => cell_grown g3 (hFb i)
    have HF : Hid ((∃ i, { W0 with drawn := W0.drawn + 1 } = F i) ∧ (∀ i, Below W0.heap.size W0 (F i)) ∧ (∀ i W, Below W0.heap.size (F i) W → ∃ j, W = F j)) := ⟨hF0, hFb, hFc⟩
    have HB0 : Hid (Below w.heap.size w W0) := hbw
    clear hF0 hFb hFc hbw f0 f1 f2 f3 g2 g3
    rw [rangeOf_1 h1]
    rw [h1] at hW0
    have HC1 : Hid _ := fun W => rcell_any a ⟨p.lo, ByteArray.empty⟩ L W (Nat.zero_le _)
    have HC2 : Hid _ := fun W => rcell_any a ⟨p.hi, ByteArray.empty⟩ L W (Nat.zero_le _)
    generalize cellOf a ⟨p.lo, ByteArray.empty⟩ L = r1 at *
    generalize cellOf a ⟨p.hi, ByteArray.empty⟩ L = r2 at *
    go_enter Tryz.func42, Tryz.ntmps42
    go_wp2_with fail
    rw [← hW0]
    refine wp_region_fam F HF.out.1 (by kernel_rfl) (by kernel_rfl) ?_
    repeat (go_big_quiet_step (first
      | (go_at_call_of 53 (Value.int .i64 p.lo); refine Calls.mono (HC1.out _) ?_; rintro e' w' ⟨hs, hb⟩; exact ⟨hs, HF.out.2.2 _ _ (hb.mono (HF.out.2.1 _).size)⟩)
      | (go_at_call_of 53 (Value.int .i64 p.hi); refine Calls.mono (HC2.out _) ?_; rintro e' w' ⟨hs, hb⟩; exact ⟨hs, HF.out.2.2 _ _ (hb.mono (HF.out.2.1 _).size)⟩)))
    refine wpQuiet_nil ?_
    rintro _ ⟨i, rfl⟩
    have BF := HB0.out.trans ((HF.out.2.1 i).mono HB0.out.size)
    go_wp2
    go_ret2
    exact ⟨rfl, BF⟩
  · have HC1 : Hid _ := fun W => rcell_any a ⟨0, p.str⟩ L W (by unfold maxLen; simp; omega)
    by_cases h2 : p.op = 2
    · rw [rangeOf_2 h2]
      generalize cellOf a ⟨0, p.str⟩ L = r1 at *
      clear h1
      go_enter Tryz.func42, Tryz.ntmps42
      go_wp2_with fail
      refine Calls.mono (HC1.out _) ?_
      rintro e w1 ⟨rfl, hb1⟩
      have c1 := hb1.cell (p := ⟨w.heap.size + 1, 1, none⟩) (by simp)
      simp at c1
      have HB1 : Hid (Below w.heap.size w w1) := (dbel2 w _ _).trans (hb1.mono (by simp; omega))
      clear hb1
      go_wp2
      go_ret2
      exact ⟨rfl, HB1.out⟩
    · rw [rangeOf_3 h1 h2]
      have HC2 : Hid _ := fun W => rcell_any a ⟨0, p.str ++ ⟨#[255, 255]⟩⟩ L W (by
        unfold maxLen
        have : (p.str ++ (⟨#[255, 255]⟩ : ByteArray)).size = p.str.size + 2 := by rw [ByteArray.size_append]; rfl
        simp only; rw [this]; omega)
      generalize cellOf a ⟨0, p.str⟩ L = r1 at *
      generalize cellOf a ⟨0, p.str ++ ⟨#[255, 255]⟩⟩ L = r2 at *
      go_enter Tryz.func42, Tryz.ntmps42
      go_wp2_with fail
      refine Calls.mono (HC1.out _) ?_
      rintro e w1 ⟨rfl, hb1⟩
      have c1 := hb1.cell (p := ⟨w.heap.size + 1, 1, none⟩) (by simp)
      have c4 := hb1.cell (p := ⟨w.heap.size + 1, 4, none⟩) (by simp)
      have k0 := hb1.cell (p := ⟨w.heap.size, 0, none⟩) (by simp; omega)
      have k1 := hb1.cell (p := ⟨w.heap.size, 1, none⟩) (by simp; omega)
      have k2 := hb1.cell (p := ⟨w.heap.size, 2, none⟩) (by simp; omega)
      have k3 := hb1.cell (p := ⟨w.heap.size, 3, none⟩) (by simp; omega)
      simp at c1 c4 k0 k1 k2 k3
      have HB1 : Hid (Below w.heap.size w w1) := (dbel2 w _ _).trans (hb1.mono (by simp; omega))
      have hz1 : w.heap.size + 1 < w1.heap.size := by have := hb1.size; simp at this; omega
      have hz2 : w.heap.size < w1.heap.size := by omega
      clear hb1
      go_wp2_with fail
      refine Calls.mono (HC2.out _) ?_
      rintro e w2 ⟨rfl, hb2⟩
      have HB2 : Hid (Below w.heap.size w w2) := HB1.out.trans (hb2.mono HB1.out.size)
      clear hb2
      go_wp2
      go_ret2
      exact ⟨rfl, HB2.out⟩
end Go.Proofs.YtkkbhkpeglcodaaGreatDoor
