/- wigwaglaw08.GroupApart, walked. -/
import Derived.Test.YtiafamfnbpbfiaaDoorGrSch
import Derived.Test.YtiafamfnbpbfiaaDoorGrInj
import Derived.Test.YtiafamfnbpbfiaaDoorDyRow
namespace Go.Proofs.YtiafamfnbpbfiaaDoor
open Go.ChangeShapes Go.WideShapes Go.ChangeAt Go.RowKit
set_option linter.unusedVariables false

theorem toL_inj {s t : ByteArray} : (s.toList == t.toList) = decide (s = t) := by
  rw [Bool.eq_iff_iff]
  simp [toList_inj]
/-- The two boxes behind a call. -/
theorem boxes2 {w w1 : World} {a b c d : Value} {t : TypeId} {B : Nat} (hB : w.heap.size + 2 ≤ B) (hb : Below B ((w.alloc (.cells #[a, b] t)).alloc (.cells #[c, d] t)) w1) :
    w1.cell? ⟨w.heap.size, 0, none⟩ = some a ∧ w1.cell? ⟨w.heap.size, 1, none⟩ = some b ∧ w1.cell? ⟨w.heap.size + 1, 0, none⟩ = some c ∧ w1.cell? ⟨w.heap.size + 1, 1, none⟩ = some d := by
  refine ⟨?_, ?_, ?_, ?_⟩
  · rw [hb.cell (p := ⟨w.heap.size, 0, none⟩) (by simp; omega)]; simp
  · rw [hb.cell (p := ⟨w.heap.size, 1, none⟩) (by simp; omega)]; simp
  · rw [hb.cell (p := ⟨w.heap.size + 1, 0, none⟩) (by simp; omega)]; simp
  · rw [hb.cell (p := ⟨w.heap.size + 1, 1, none⟩) (by simp; omega)]; simp

set_option maxRecDepth 100000 in
set_option maxHeartbeats 4000000 in
theorem apt_walk (a0 a1 : ByteArray) (a2 a3 : Iv) (a4 : Int) (w : World) (hE : GEnv w) (w0 : a0.size ≤ maxLen) (w1 : a1.size ≤ maxLen) :
    Calls Tryd.prog 5 #[.string a0, .string a1, .agg #[.int .i64 a2.lev, .int .i64 a2.idx], .agg #[.int .i64 a3.lev, .int .i64 a3.idx], .int .i64 a4] w fun e w' => e = .returned (.bool true) ∧ Below w.heap.size w w' := by
  obtain ⟨W0, hW0⟩ : ∃ W0, W0 = (w.alloc (.cells #[.int .i64 a2.lev, .int .i64 a2.idx] 57)).alloc (.cells #[.int .i64 a3.lev, .int .i64 a3.idx] 57) := ⟨_, rfl⟩
  have hb0 : Below w.heap.size w W0 := by rw [hW0]; exact dbel2 _ _ _
  obtain ⟨c0, c1, c2, c3⟩ : W0.cell? ⟨w.heap.size, 0, none⟩ = some (.int .i64 a2.lev) ∧ W0.cell? ⟨w.heap.size, 1, none⟩ = some (.int .i64 a2.idx) ∧ W0.cell? ⟨w.heap.size + 1, 0, none⟩ = some (.int .i64 a3.lev) ∧ W0.cell? ⟨w.heap.size + 1, 1, none⟩ = some (.int .i64 a3.idx) := by
    rw [hW0]; exact boxes2 (B := ((w.alloc (.cells #[.int .i64 a2.lev, .int .i64 a2.idx] 57)).alloc (.cells #[.int .i64 a3.lev, .int .i64 a3.idx] 57)).heap.size) (by simp) (Below.refl _ _)
  have HE0 : Hid (GEnv W0 ∧ Below w.heap.size w W0) := ⟨hE.below hb0, hb0⟩
  have H1 : Hid _ := name_any a0 W0 w0
  have H2 : Hid _ := name_any a1 W0 w1
  clear hE hb0
  go_enter Tryd.func5, Tryd.ntmps5
  go_wp2_with fail
  rw [← hW0]
  clear hW0
  refine Calls.mono H1.out ?_
  rintro e w' ⟨⟨b, rfl, hb⟩, hw'⟩
  subst w'
  have HNA : Hid (b = true ↔ NameOk a0) := hb
  clear hb
  cases b with
  | false =>
    go_wp2_with fail
    refine Calls.mono (awake8_any _ HE0.out.1) ?_
    rintro e W4 ⟨rfl, b4⟩
    have B4 : Hid (Below w.heap.size w W4) := HE0.out.2.trans (b4.mono HE0.out.2.size)
    clear b4
    go_wp2
    go_ret
    exact ⟨rfl, B4.out⟩
  | true =>
    have HA : Hid (NameOk a0) := HNA.out.1 rfl
    clear HNA
    go_wp2_with fail
    refine Calls.mono H2.out ?_
    rintro e w' ⟨⟨b, rfl, hb⟩, hw'⟩
    subst w'
    have HNB : Hid (b = true ↔ NameOk a1) := hb
    clear hb
    cases b with
    | false =>
      go_wp2_with fail
      refine Calls.mono (awake8_any _ HE0.out.1) ?_
      rintro e W4 ⟨rfl, b4⟩
      have B4 : Hid (Below w.heap.size w W4) := HE0.out.2.trans (b4.mono HE0.out.2.size)
      clear b4
      go_wp2
      go_ret
      exact ⟨rfl, B4.out⟩
    | true =>
      have HB : Hid (NameOk a1) := HNB.out.1 rfl
      clear HNB
      by_cases g2 : a2.good a4
      · have HG2 : Hid _ := good_yes a2 a4 W0 g2
        go_wp2_with fail
        refine Calls.mono HG2.out ?_
        rintro e W1 ⟨rfl, b1⟩
        have d0 := cell_grown c0 b1
        have d1 := cell_grown c1 b1
        have d2 := cell_grown c2 b1
        have d3 := cell_grown c3 b1
        have HE1 : Hid (GEnv W1 ∧ Below w.heap.size w W1) := ⟨HE0.out.1.below b1, HE0.out.2.trans (b1.mono HE0.out.2.size)⟩
        clear b1 c0 c1 c2 c3 HE0 HG2
        by_cases g3 : a3.good a4
        · have HG3 : Hid _ := good_yes a3 a4 W1 g3
          have dl := cell_block d2
          go_wp2_with fail
          refine Calls.mono HG3.out ?_
          rintro e W2 ⟨rfl, b2⟩
          have HE2 : Hid (GEnv W2 ∧ Below w.heap.size w W2) := ⟨HE1.out.1.below b2, HE1.out.2.trans (b2.mono HE1.out.2.size)⟩
          obtain ⟨ι, F, _, hF0, hFb, hFc⟩ := grown_fam W2
          have F0 : ∀ i, (F i).cell? ⟨w.heap.size, 0, none⟩ = some (.int .i64 a2.lev) := fun i => cell_grown (cell_grown d0 b2) (hFb i)
          have F1 : ∀ i, (F i).cell? ⟨w.heap.size, 1, none⟩ = some (.int .i64 a2.idx) := fun i => cell_grown (cell_grown d1 b2) (hFb i)
          have F2 : ∀ i, (F i).cell? ⟨w.heap.size + 1, 0, none⟩ = some (.int .i64 a3.lev) := fun i => cell_grown (cell_grown d2 b2) (hFb i)
          have F3 : ∀ i, (F i).cell? ⟨w.heap.size + 1, 1, none⟩ = some (.int .i64 a3.idx) := fun i => cell_grown (cell_grown d3 b2) (hFb i)
          have HF : Hid ((∃ i, { W2 with drawn := W2.drawn + 1 } = F i) ∧ (∀ i, Below W2.heap.size W2 (F i)) ∧ (∀ i W, Below W2.heap.size (F i) W → ∃ j, W = F j)) := ⟨hF0, hFb, hFc⟩
          obtain ⟨l, i, n, rfl, rfl, x1, x2, x3⟩ := Iv.good_nat g2
          obtain ⟨m, j, n', rfl, hnn, y1, y2, y3⟩ := Iv.good_nat g3
          have hp := pow_le_256 (show l ≤ 8 by clear x3 y3; omega)
          have hp' := pow_le_256 (show m ≤ 8 by clear x3 y3; omega)
          have hi256 : i ≤ 256 := Nat.le_trans (Nat.le_of_lt x3) hp
          have hj256 : j ≤ 256 := Nat.le_trans (Nat.le_of_lt y3) hp'
          clear hp hp' x3 y3
          have s0 := HA.out.hi
          have s1 := HB.out.hi
          have HN1 : Hid (∀ k, Calls Tryd.prog 21 #[.string a0, .agg #[.int .i64 (l : Int), .int .i64 (i : Int)]] (F k) fun e w' => e = .returned (.string (gname a0 ⟨l, i⟩)) ∧ Below (F k).heap.size (F k) w') := fun k => name_of a0 ⟨l, i⟩ _ (HE2.out.1.below (hFb k)) (by omega) (by unfold i64; simp; omega) (by unfold i64; simp; omega)
          have HN2 : Hid (∀ k, Calls Tryd.prog 21 #[.string a1, .agg #[.int .i64 (m : Int), .int .i64 (j : Int)]] (F k) fun e w' => e = .returned (.string (gname a1 ⟨m, j⟩)) ∧ Below (F k).heap.size (F k) w') := fun k => name_of a1 ⟨m, j⟩ _ (HE2.out.1.below (hFb k)) (by omega) (by unfold i64; simp; omega) (by unfold i64; simp; omega)
          have HAW : Hid (∀ k, Calls Tryd.prog 11 #[] (F k) fun e w' => e = .returned (.bool true) ∧ Below (F k).heap.size (F k) w') := fun k => awake8_any _ (HE2.out.1.below (hFb k))
          clear hF0 hFb hFc b2 d0 d1 d2 d3 g2 g3 HG3 HE1
          by_cases hab : a0 = a1
          · subst hab
            by_cases hlm : l = m
            · subst hlm
              by_cases hij : i = j
              · subst hij
                generalize gname a0 ⟨l, i⟩ = N1 at *
                go_wp2_with fail
                refine wp_region_fam F HF.out.1 (by kernel_rfl) (by kernel_rfl) ?_
                repeat (go_big_quiet_step (first
                  | (go_at_call 11; refine Calls.mono (HAW.out _) ?_; rintro e' w' ⟨hs, hb⟩; exact ⟨hs, HF.out.2.2 _ _ (hb.mono (HF.out.2.1 _).size)⟩)
                  | (go_at_call 21; refine Calls.mono (HN1.out _) ?_; rintro e' w' ⟨hs, hb⟩; exact ⟨hs, HF.out.2.2 _ _ (hb.mono (HF.out.2.1 _).size)⟩)))
                refine wpQuiet_nil ?_
                rintro _ ⟨k, rfl⟩
                have BF := HE2.out.2.trans ((HF.out.2.1 k).mono HE2.out.2.size)
                go_wp2
                go_ret
                exact ⟨by simp, BF⟩
              · have hne : (gname a0 ⟨l, i⟩).toList ≠ (gname a0 ⟨l, j⟩).toList := fun h => hij (gname_inj HA.out HB.out (toList_inj.1 h)).2.2
                have hne2 : ((gname a0 ⟨l, i⟩).toList == (gname a0 ⟨l, j⟩).toList) = false := by simpa using hne
                generalize gname a0 ⟨l, i⟩ = N1 at *
                generalize gname a0 ⟨l, j⟩ = N2 at *
                go_wp2_with fail
                refine wp_region_fam F HF.out.1 (by kernel_rfl) (by kernel_rfl) ?_
                repeat (go_big_quiet_step (first
                  | (go_at_call 11; refine Calls.mono (HAW.out _) ?_; rintro e' w' ⟨hs, hb⟩; exact ⟨hs, HF.out.2.2 _ _ (hb.mono (HF.out.2.1 _).size)⟩)
                  | (go_at_call_of 21 (Value.int .i64 (i : Int)); refine Calls.mono (HN1.out _) ?_; rintro e' w' ⟨hs, hb⟩; exact ⟨hs, HF.out.2.2 _ _ (hb.mono (HF.out.2.1 _).size)⟩)
                  | (go_at_call 21; refine Calls.mono (HN2.out _) ?_; rintro e' w' ⟨hs, hb⟩; exact ⟨hs, HF.out.2.2 _ _ (hb.mono (HF.out.2.1 _).size)⟩)))
                refine wpQuiet_nil ?_
                rintro _ ⟨k, rfl⟩
                have BF := HE2.out.2.trans ((HF.out.2.1 k).mono HE2.out.2.size)
                go_wp2
                go_ret
                exact ⟨by simp [*], BF⟩
            · have hne : (gname a0 ⟨l, i⟩).toList ≠ (gname a0 ⟨m, j⟩).toList := fun h => hlm (gname_inj HA.out HB.out (toList_inj.1 h)).2.1
              have hne2 : ((gname a0 ⟨l, i⟩).toList == (gname a0 ⟨m, j⟩).toList) = false := by simpa using hne
              generalize gname a0 ⟨l, i⟩ = N1 at *
              generalize gname a0 ⟨m, j⟩ = N2 at *
              go_wp2_with fail
              refine wp_region_fam F HF.out.1 (by kernel_rfl) (by kernel_rfl) ?_
              repeat (go_big_quiet_step (first
                | (go_at_call 11; refine Calls.mono (HAW.out _) ?_; rintro e' w' ⟨hs, hb⟩; exact ⟨hs, HF.out.2.2 _ _ (hb.mono (HF.out.2.1 _).size)⟩)
                | (go_at_call_of 21 (Value.int .i64 (l : Int)); refine Calls.mono (HN1.out _) ?_; rintro e' w' ⟨hs, hb⟩; exact ⟨hs, HF.out.2.2 _ _ (hb.mono (HF.out.2.1 _).size)⟩)
                | (go_at_call 21; refine Calls.mono (HN2.out _) ?_; rintro e' w' ⟨hs, hb⟩; exact ⟨hs, HF.out.2.2 _ _ (hb.mono (HF.out.2.1 _).size)⟩)))
              refine wpQuiet_nil ?_
              rintro _ ⟨k, rfl⟩
              have BF := HE2.out.2.trans ((HF.out.2.1 k).mono HE2.out.2.size)
              go_wp2
              go_ret
              exact ⟨by simp [*], BF⟩
          · have hx1 : a0.toList ≠ a1.toList := fun h => hab (toList_inj.1 h)
            have hx2 : (a0.toList == a1.toList) = false := by simpa using hx1
            have hne : (gname a0 ⟨l, i⟩).toList ≠ (gname a1 ⟨m, j⟩).toList := fun h => hab (gname_inj HA.out HB.out (toList_inj.1 h)).1
            have hne2 : ((gname a0 ⟨l, i⟩).toList == (gname a1 ⟨m, j⟩).toList) = false := by simpa using hne
            generalize gname a0 ⟨l, i⟩ = N1 at *
            generalize gname a1 ⟨m, j⟩ = N2 at *
            go_wp2_with fail
            refine wp_region_fam F HF.out.1 (by kernel_rfl) (by kernel_rfl) ?_
            repeat (go_big_quiet_step (first
              | (go_at_call 11; refine Calls.mono (HAW.out _) ?_; rintro e' w' ⟨hs, hb⟩; exact ⟨hs, HF.out.2.2 _ _ (hb.mono (HF.out.2.1 _).size)⟩)
              | (go_at_call_of 21 (Value.string a0); refine Calls.mono (HN1.out _) ?_; rintro e' w' ⟨hs, hb⟩; exact ⟨hs, HF.out.2.2 _ _ (hb.mono (HF.out.2.1 _).size)⟩)
              | (go_at_call 21; refine Calls.mono (HN2.out _) ?_; rintro e' w' ⟨hs, hb⟩; exact ⟨hs, HF.out.2.2 _ _ (hb.mono (HF.out.2.1 _).size)⟩)))
            refine wpQuiet_nil ?_
            rintro _ ⟨k, rfl⟩
            have BF := HE2.out.2.trans ((HF.out.2.1 k).mono HE2.out.2.size)
            go_wp2
            go_ret
            exact ⟨by simp [*], BF⟩
        · have HG3 : Hid _ := good_no a3 a4 W1 g3
          have dl := cell_block d2
          clear g3
          go_wp2_with fail
          refine Calls.mono HG3.out ?_
          rintro e W2 ⟨rfl, b2⟩
          have HE2 : Hid (GEnv W2 ∧ Below w.heap.size w W2) := ⟨HE1.out.1.below b2, HE1.out.2.trans (b2.mono HE1.out.2.size)⟩
          clear b2
          go_wp2_with fail
          refine Calls.mono (awake8_any _ HE2.out.1) ?_
          rintro e W4 ⟨rfl, b4⟩
          have B4 : Hid (Below w.heap.size w W4) := HE2.out.2.trans (b4.mono HE2.out.2.size)
          clear b4
          go_wp2
          go_ret
          exact ⟨rfl, B4.out⟩
      · have HG2 : Hid _ := good_no a2 a4 W0 g2
        clear g2
        go_wp2_with fail
        refine Calls.mono HG2.out ?_
        rintro e W1 ⟨rfl, b1⟩
        have HE1 : Hid (GEnv W1 ∧ Below w.heap.size w W1) := ⟨HE0.out.1.below b1, HE0.out.2.trans (b1.mono HE0.out.2.size)⟩
        clear b1
        go_wp2_with fail
        refine Calls.mono (awake8_any _ HE1.out.1) ?_
        rintro e W4 ⟨rfl, b4⟩
        have B4 : Hid (Below w.heap.size w W4) := HE1.out.2.trans (b4.mono HE1.out.2.size)
        clear b4
        go_wp2
        go_ret
        exact ⟨rfl, B4.out⟩
end Go.Proofs.YtiafamfnbpbfiaaDoor
