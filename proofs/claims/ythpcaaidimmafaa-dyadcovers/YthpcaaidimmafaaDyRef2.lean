/- wigwagref07.Good, Has, Same; wigwaglaw07.told. -/
import Derived.Test.YthpcaaidimmafaaDyRef
import Derived.Test.YthpcaaidimmafaaDyCov3
namespace Go.Proofs.Ythpcaaidimmafaa
open Go.ChangeShapes Go.WideShapes Go.ChangeAt Go.RowKit
set_option linter.unusedVariables false

theorem Try.infoRIv : (Try.prog.info? 27).map (fun i => (i.zero, i.size, i.bytes)) = some (some (.agg #[.int .i64 0, .int .i64 0]), 2, 16) := by kernel_rfl
theorem src_RIv (w : World) (q : Iv) (x : Nat) (hx : x = w.heap.size) :
    Src Try.prog 2 33 (.slice (some ⟨x, 0, none⟩) 1 1) 1 q.cells (w.alloc (.cells #[.int .i64 q.lev, .int .i64 q.idx] 27)) :=
  Src.ofSlice _ Try.underlying33 _ 1 1 _ rfl (fun j u hu => by
    subst hx
    have := World.news_of_block (cs := #[.int .i64 q.lev, .int .i64 q.idx]) (t := 27) (fr := (0, 0)) (heap_alloc_new w _) j u (by simpa [Iv.cells] using hu)
    exact this) (by simp [Iv.cells, Value.oneCell'])
/-- A row of the call's own, as what is appended. -/
theorem src_own {w : World} {B : Nat} {e : TypeId} {v : Value} {us : List Iv} (h : w.ownsRow B e 2 v us.length (us.flatMap Iv.cells)) : Src Try.prog 2 33 v us.length (us.flatMap Iv.cells) w := by
  have h1 : ∀ u ∈ us.flatMap Iv.cells, u.oneCell' = true := by
    intro u hu
    obtain ⟨x, _, hx⟩ := List.mem_flatMap.1 hu
    simp [Iv.cells] at hx
    rcases hx with rfl | rfl <;> rfl
  rcases h.2 with ⟨rfl, h0⟩ | ⟨g, cap, cur, hv, hb, hg, hnc, _⟩
  · have hu : us = [] := List.eq_nil_of_length_eq_zero h0
    subst hu
    exact Src.ofNil _ Try.underlying33 0
  · have hc := h.cells (g := g) (by rw [hv]; rfl)
    rw [hv]
    exact Src.ofSlice _ Try.underlying33 _ _ _ _ h.1 hc h1
theorem IvRow.made (T : TypeId) (w : World) : IvRow T w (w.alloc (.cells #[] T)) (.slice (some ⟨w.heap.size, 0, none⟩) 0 0) [] :=
  ⟨World.ownsRow_made w #[] 0 (Nat.le_refl _) (Nat.zero_le _) rfl, dbel1 _ _⟩

set_option maxHeartbeats 1000000 in
theorem rgood_any (x : Iv) (L : Int) (w : World) :
    Calls Try.prog 10 #[.agg #[.int .i64 x.lev, .int .i64 x.idx], .int .i64 L] w fun e w' => e = .returned (.bool (x.goodB L)) ∧ Below w.heap.size w w' := by
  obtain ⟨l, i⟩ := x
  by_cases g0 : 0 ≤ L
  · by_cases g1 : L < 9
    · by_cases h1 : 0 ≤ l
      · by_cases h2 : l ≤ L
        · by_cases h3 : 0 ≤ i
          · obtain ⟨n, rfl⟩ : ∃ n : Nat, l = n := ⟨l.toNat, by omega⟩
            have HP : Hid _ := fun W => power_any n W (by omega)
            have HG : Hid ((Iv.mk n i).goodB L = decide (i < ((2 ^ n : Nat) : Int))) := (by simp only [Iv.goodB, Iv.good, Int.toNat_natCast, powI]; exact decide_eq_decide.2 ⟨fun h => h.2.2.2.2.2, fun h => ⟨g0, by omega, by omega, by omega, by omega, h⟩⟩ : (Iv.mk n i).goodB L = decide (i < ((2 ^ n : Nat) : Int)))
            rw [HG.out]
            generalize 2 ^ n = P at *
            go_enter Try.func10, Try.ntmps10
            go_wp2_with fail
            go_quiet ((go_at_call 14; exact Calls.quiet_of_same (HP.out _)))
            go_wp2
            go_ret
            exact ⟨by refine ret_b ?_; simp, dbel1d _ _ _⟩
          · have hd : decide (0 ≤ i) = false := decide_eq_false h3
            have HG : Hid ((Iv.mk l i).goodB L = false) := (not_good fun h => h3 h.2.2.2.2.1 : (Iv.mk l i).goodB L = false)
            rw [HG.out]
            go_enter Try.func10, Try.ntmps10
            go_wp2_with fail
            go_quiet (fail)
            go_wp2
            go_ret
            exact ⟨rfl, dbel1d _ _ _⟩
        · have hd : decide (l ≤ L) = false := decide_eq_false h2
          have HG : Hid ((Iv.mk l i).goodB L = false) := (not_good fun h => h2 h.2.2.2.1 : (Iv.mk l i).goodB L = false)
          rw [HG.out]
          go_enter Try.func10, Try.ntmps10
          go_wp2_with fail
          go_quiet (fail)
          go_wp2
          go_ret
          exact ⟨rfl, dbel1d _ _ _⟩
      · have hd : decide (0 ≤ l) = false := decide_eq_false h1
        have HG : Hid ((Iv.mk l i).goodB L = false) := (not_good fun h => h1 h.2.2.1 : (Iv.mk l i).goodB L = false)
        rw [HG.out]
        go_enter Try.func10, Try.ntmps10
        go_wp2_with fail
        go_quiet (fail)
        go_wp2
        go_ret
        exact ⟨rfl, dbel1d _ _ _⟩
    · have hd : decide (L < 9) = false := decide_eq_false g1
      have HG : Hid ((Iv.mk l i).goodB L = false) := (not_good fun h => g1 (by have := h.2.1; omega) : (Iv.mk l i).goodB L = false)
      rw [HG.out]
      go_enter Try.func10, Try.ntmps10
      go_wp2_with fail
      go_quiet (fail)
      go_wp2
      go_ret
      exact ⟨rfl, dbel1d _ _ _⟩
  · have hd : decide (0 ≤ L) = false := decide_eq_false g0
    have HG : Hid ((Iv.mk l i).goodB L = false) := (not_good fun h => g0 h.1 : (Iv.mk l i).goodB L = false)
    rw [HG.out]
    go_enter Try.func10, Try.ntmps10
    go_wp2_with fail
    go_quiet (fail)
    go_wp2
    go_ret
    exact ⟨rfl, dbel1d _ _ _⟩

set_option maxHeartbeats 1000000 in
theorem rhas_any (l i c n : Nat) (w : World) (h1 : l ≤ n) (h2 : n ≤ 8) (hc : c ≤ 65536) :
    Calls Try.prog 13 #[.agg #[.int .i64 l, .int .i64 i], .int .i64 c, .int .i64 n] w fun e w' => e = .returned (.bool (decide (c / 2 ^ (n - l) = i))) ∧ Below w.heap.size w w' := by
  have HP := fun W => power_any (n - l) W (by omega)
  rw [show ((n - l : Nat) : Int) = (n : Int) - (l : Int) by omega] at HP
  have HP : Hid _ := HP
  have hp1 := pow_pos2 (n - l)
  have hp2 := pow_le_62 (show n - l ≤ 16 by omega) (Nat.le_refl _)
  generalize 2 ^ (n - l) = P at *
  go_enter Try.func13, Try.ntmps13
  go_wp2_with fail
  go_quiet ((go_at_call 14; exact Calls.quiet_of_same (HP.out _)))
  go_wp2
  go_ret
  refine ⟨ret_b ?_, dbel1d _ _ _⟩
  rw [Bool.eq_iff_iff]
  simp
  have hq : c / P ≤ c := Nat.div_le_self c P
  rw [← Int.natCast_ediv]
  generalize c / P = q at *
  rw [w64_in (by omega) (by omega)]
  omega

set_option maxRecDepth 100000 in
set_option maxHeartbeats 1000000 in
theorem told_any (v : Value) (xs : List Iv) (w : World) (h : IvIn w v xs) (hl : xs.length ≤ 1000) :
    Calls Try.prog 16 #[v] w fun e w' => ∃ v', e = .returned v' ∧ IvRow 27 w w' v' xs := by
  obtain ⟨i0, hi, hz0, hz1, hz2⟩ := dinfo Try.infoRIv
  have HI : Hid (IvIn w v xs) := h
  obtain ⟨a, cp, rfl, hsh⟩ := h.shape
  have HS : Hid _ := hsh
  clear h hsh
  have HM : Hid _ := IvRow.made 27 w
  go_enter Try.func16, Try.ntmps16
  go_wp2
  go_loopg [3, 9] xs.length (fun kx s3 s9 wr => ∃ k : Nat, s9 = .int .i64 k ∧ k ≤ xs.length ∧ kx = xs.length - k ∧ (∃ a c, s3 = .slice a k c) ∧ Hid (IvRow 27 w wr s3 (xs.take k)))
  case atStart => exact ⟨0, rfl, Nat.zero_le _, rfl, ⟨_, _, rfl⟩, HM⟩
  case round =>
    obtain ⟨k, rfl, hk, rfl, ⟨a1, c1, rfl⟩, R⟩ := hrel
    by_cases hlt : k < xs.length
    · obtain ⟨g, rfl, hg, hcap, hj⟩ := HS.out (by omega)
      obtain ⟨d0, d1⟩ := hj k hlt
      have hle := R.out.le
      have e : ∀ o, wr.cell? ⟨g, o, none⟩ = w.cell? ⟨g, o, none⟩ := fun o => R.out.bel.cell (p := ⟨g, o, none⟩) hg
      rw [← e] at d0 d1
      have HL : Hid ((xs.take k).length = k) := (by rw [List.length_take]; omega : (xs.take k).length = k)
      have HSN : Hid (xs.take (k + 1) = xs.take k ++ [xs.getD k iv0]) := (by rw [List.take_succ_eq_append_getElem hlt]; simp [hlt] : xs.take (k + 1) = xs.take k ++ [xs.getD k iv0])
      generalize xs.getD k iv0 = y at d0 d1 HSN
      have HR : Hid (wr.ownsRow w.heap.size 27 2 (.slice a1 k c1) k ((xs.take k).flatMap Iv.cells)) := by
        have := R.out.row; rw [HL.out] at this; exact this
      have hgl : g < wr.heap.size := Nat.lt_of_lt_of_le hg hle
      clear e hj
      go_wp2_with (at_builtin; refine wpList_own_append2 _ rfl _ _ 33 33 rfl w.heap.size 27 i0 _ 16 Try.underlying33 hi hz0 hz1 hz2 rfl _ k ((xs.take k).flatMap Iv.cells) rfl (own_carryI HR.out (dbel2 _ _ _)) _ 1 y.cells rfl (src_RIv (wr.alloc _) y _ (by simp)) ?c3 ?c4 ?c5 ?_)
      case c3 => unfold maxLen; omega
      case c4 => omega
      case c5 => simp; omega
      intro v' W2 ha
      obtain ⟨a', cp', hv⟩ := ha.shape
      subst hv
      have HST : Hid (IvRow 27 w W2 (.slice a' (k + 1) cp') (xs.take (k + 1))) := by
        show IvRow _ _ _ _ _
        rw [HSN.out]
        exact R.out.step (dbel2 _ _ _) (by rw [HL.out]; exact ha)
      clear ha d0 d1
      go_wp2
      go_roundg (xs.length - (k + 1))
      case measure => omega
      case rel => exact ⟨k + 1, by go_num, by omega, rfl, ⟨_, _, rfl⟩, HST⟩
    · obtain rfl : k = xs.length := by omega
      have HE : Hid (xs.take xs.length = xs) := (List.take_length : xs.take xs.length = xs)
      go_wp2
      go_ret
      exact ⟨_, rfl, by rw [HE.out] at R; exact R.out⟩

set_option maxRecDepth 100000 in
set_option maxHeartbeats 1000000 in
theorem rsame_any (v u : Value) (xs : List Iv) (w : World) (h : IvIn w v xs) (h' : IvIn w u xs) (hl : xs.length ≤ 1000) :
    Calls Try.prog 15 #[v, u] w fun e w' => e = .returned (.bool true) ∧ Below w.heap.size w w' := by
  obtain ⟨a, cp, rfl, hsh⟩ := h.shape
  obtain ⟨b, cq, rfl, hsh'⟩ := h'.shape
  have HS : Hid _ := hsh
  have HS' : Hid _ := hsh'
  clear h hsh h' hsh'
  go_enter Try.func15, Try.ntmps15
  go_wp2
  go_loopg [13] xs.length (fun kx s13 wr => ∃ k : Nat, s13 = .int .i64 k ∧ k ≤ xs.length ∧ kx = xs.length - k ∧ Hid (Below w.heap.size w wr))
  case atStart => exact ⟨0, rfl, Nat.zero_le _, rfl, (Below.refl _ _ : Below w.heap.size w w)⟩
  case round =>
    obtain ⟨k, rfl, hk, rfl, HB⟩ := hrel
    by_cases hlt : k < xs.length
    · obtain ⟨g, rfl, hg, hcap, hj⟩ := HS.out (by omega)
      obtain ⟨g', rfl, hg', hcap', hj'⟩ := HS'.out (by omega)
      obtain ⟨d0, d1⟩ := hj k hlt
      obtain ⟨e0, e1⟩ := hj' k hlt
      have f0 := (HB.out.cell (p := ⟨g, k * 2, none⟩) hg).trans d0
      have f1 := (HB.out.cell (p := ⟨g, k * 2 + 1, none⟩) hg).trans d1
      have f2 := (HB.out.cell (p := ⟨g', k * 2, none⟩) hg').trans e0
      have f3 := (HB.out.cell (p := ⟨g', k * 2 + 1, none⟩) hg').trans e1
      generalize xs.getD k iv0 = y at f0 f1 f2 f3
      clear hj hj' d0 d1 e0 e1
      have ix : (0 : Int) ≤ (k : Int) ∧ (k : Int) < (xs.length : Int) := by omega
      go_wp2_with fail
      go_quiet (fail)
      have HB2 : Hid (Below w.heap.size w (wr.drewN nq)) := HB.out.trans ((dbeld _ _).mono HB.out.size)
      go_wp2
      go_roundg (xs.length - (k + 1))
      case measure => omega
      case rel => exact ⟨k + 1, by go_num, by omega, rfl, HB2⟩
    · go_wp2
      go_ret
      exact ⟨rfl, HB.out⟩
end Go.Proofs.Ythpcaaidimmafaa
