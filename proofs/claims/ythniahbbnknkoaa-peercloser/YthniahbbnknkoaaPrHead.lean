/- peer.lives, Head, Rectify, of layer 9's world. -/
import Derived.Test.YthniahbbnknkoaaPrW
import Derived.Test.YthniahbbnknkoaaRing
import Derived.Deep.LoopGhost
namespace Go.Proofs.Ythniahbbnknkoaa
open Go.ChangeShapes Go.WideShapes Go.ChangeAt Go.RowKit Go.Deep
set_option linter.unusedVariables false

theorem me_lives (v0 v1 : Value) (w : World) : (method 165 25 (.agg #[v0, v1]) "Lives").run Try.prog w = .ok (8, .agg #[v0, v1]) w := by kernel_rfl
theorem me_id (v0 v1 : Value) (w : World) : (method 165 25 (.agg #[v0, v1]) "Id").run Try.prog w = .ok (11, .agg #[v0, v1]) w := by kernel_rfl

set_option maxHeartbeats 1000000 in
theorem plives_any (a0 : Option Addr) (l0 c0 : Nat) (v1 : Value) (lv : List Bool) (n : Int) (w : World) (h : LvIn w a0 l0 lv) (hn : i64 n) :
    Calls Try.prog 17 #[.int .i64 n, .iface 25 (.agg #[.slice a0 l0 c0, v1])] w fun e w' => e = .returned (.bool (livesB lv n)) ∧ Below w.heap.size w w' := by
  have m1 := fun v0 v1 w => me_lives v0 v1 w
  by_cases q : n = -1
  · subst q
    go_enter Try.func17, Try.ntmps17
    go_wp2
    go_ret
    exact ⟨ret_b (lives_neg (by omega)).symm, Below.refl _ _⟩
  · have H : Hid (LvIn w a0 l0 lv) := h
    clear h
    go_enter Try.func17, Try.ntmps17
    go_wp2_with (go_at_call 8; refine (lives_w _ _ _ _ _ _ _ H.out hn).mono ?_; rintro e w' ⟨rfl, hb⟩)
    go_ret
    exact ⟨ret_b (by simp [q]), hb⟩

set_option maxHeartbeats 1000000 in
theorem head_any (id pred : Value) (a : Option Addr) (len cap : Nat) (l : List Int) (a0 : Option Addr) (l0 c0 : Nat) (v1 : Value) (lv : List Bool) (w : World) (hl : InIn w a len l) (h : LvIn w a0 l0 lv) :
    Calls Try.prog 14 #[.agg #[id, pred, .slice a len cap], .iface 25 (.agg #[.slice a0 l0 c0, v1])] w fun e w' => e = .returned (.int .i64 (headI lv l)) ∧ Below w.heap.size w w' := by
  have HL : Hid (InIn w a len l) := hl
  have HV : Hid (LvIn w a0 l0 lv) := h
  have HN : Hid (l.length = len) := hl.1
  have hm := hl.2.1
  clear hl h
  go_enter Try.func14, Try.ntmps14
  go_wp2
  go_loopg [10] len (fun kx s wr => ∃ k : Nat, s = .int .i64 k ∧ k ≤ len ∧ kx = len - k ∧ Hid (Below w.heap.size w wr) ∧ Hid (headI lv (l.drop k) = headI lv l))
  case atStart => exact ⟨0, rfl, Nat.zero_le _, rfl, below_one _ _, (rfl : headI lv (l.drop 0) = headI lv l)⟩
  case round =>
    obtain ⟨k, rfl, hk, rfl, HB, I⟩ := hrel
    by_cases hlt : k < len
    · obtain ⟨b, o, rfl, hb, hx, hc⟩ := (HL.out.below (Nat.le_refl _) HB.out).one (v := Value.int .i64) (fun _ => rfl) (i := k) hlt
      have E : Hid (headI lv (l.drop k) = if livesB lv (l.getD k 0) then l.getD k 0 else headI lv (l.drop (k + 1))) := head_drop lv l k (by rw [HN.out]; exact hlt)
      generalize l.getD k 0 = x at hx hc E
      have HX : Hid (i64 x) := hx
      clear hx
      cases hq : livesB lv x
      all_goals
        have HQ : Hid _ := hq
        clear hq
        go_wp2_with (go_at_call 17; refine (plives_any _ _ _ _ _ _ _ (HV.out.below (Nat.le_refl _) HB.out) HX.out).mono ?_; rintro e w' ⟨rfl, hb'⟩; rw [HQ.out])
      · go_roundg (len - (k + 1))
        case measure => omega
        case rel => exact ⟨k + 1, by go_num, by omega, rfl, HB.out.trans (hb'.mono HB.out.size), by rw [← I.out, E.out, HQ.out]; rfl⟩
      · go_ret
        exact ⟨ret_i (by rw [← I.out, E.out, HQ.out]; rfl), HB.out.trans (hb'.mono HB.out.size)⟩
    · go_wp2
      go_ret
      exact ⟨ret_i (by rw [← I.out, List.drop_of_length_le (by rw [HN.out]; omega)]; rfl), HB.out⟩

theorem rect_no {lv : List Bool} {ids : List Int} {id pred n : Int} (h : livesB lv pred = true) (h2 : (n != -1 && withinB (idI ids n) (idI ids pred) id) = false) : rectI lv ids id pred n = pred := by
  unfold rectI; rw [h, h2]; rfl
theorem rect_dead {lv : List Bool} {ids : List Int} {id pred n : Int} (h : livesB lv pred = false) : rectI lv ids id pred n = n := by
  unfold rectI; rw [h]; rfl
theorem rect_in {lv : List Bool} {ids : List Int} {id pred n : Int} (h : (n != -1 && withinB (idI ids n) (idI ids pred) id) = true) : rectI lv ids id pred n = n := by
  unfold rectI; rw [h]; simp

set_option maxHeartbeats 2000000 in
theorem rectify_any (id pred n : Int) (sa : Option Addr) (sl sc : Nat) (a0 : Option Addr) (l0 c0 : Nat) (a1 : Option Addr) (l1 c1 : Nat) (lv : List Bool) (ids : List Int) (w : World) (h : LvIn w a0 l0 lv) (h1 : IdIn w a1 l1 ids) (hp : i64 pred) (hn : i64 n) :
    Calls Try.prog 9 #[.agg #[.int .u64 id, .int .i64 pred, .slice sa sl sc], .int .i64 n, .iface 25 (.agg #[.slice a0 l0 c0, .slice a1 l1 c1])] w fun e w' => e = .returned (.agg #[.int .u64 id, .int .i64 (rectI lv ids id pred n), .slice sa sl sc]) ∧ Below w.heap.size w w' := by
  have m1 := fun v0 v1 w => me_id v0 v1 w
  obtain ⟨W0, hW0⟩ : ∃ W0, W0 = (w.alloc (.cells #[.int .u64 id, .int .i64 pred, .slice sa sl sc] 30)).alloc (.cells #[.int .u64 0, .int .i64 0, .slice none 0 0] 30) := ⟨_, rfl⟩
  have b0 : Below w.heap.size w W0 := by rw [hW0]; exact (below_one _ _).trans ((below_one _ _).mono (by simp))
  have s0 : W0.heap.size = w.heap.size + 2 := by rw [hW0]; simp
  have f0 : W0.cell? ⟨w.heap.size, 0, none⟩ = some (.int .u64 id) := by rw [hW0]; simp
  have f1 : W0.cell? ⟨w.heap.size, 1, none⟩ = some (.int .i64 pred) := by rw [hW0]; simp
  have f2 : W0.cell? ⟨w.heap.size, 2, none⟩ = some (.slice sa sl sc) := by rw [hW0]; simp
  have g0 : W0.cell? ⟨w.heap.size + 1, 0, none⟩ = some (.int .u64 0) := by rw [hW0]; simp
  have g1 : W0.cell? ⟨w.heap.size + 1, 1, none⟩ = some (.int .i64 0) := by rw [hW0]; simp
  have g2 : W0.cell? ⟨w.heap.size + 1, 2, none⟩ = some (.slice none 0 0) := by rw [hW0]; simp
  have k0 : ∀ o, W0.frozen? ⟨w.heap.size, o, none⟩ = false := fun o => by rw [hW0]; simp
  have k1 : ∀ o, W0.frozen? ⟨w.heap.size + 1, o, none⟩ = false := fun o => by rw [hW0]; simp
  have HK : Hid ((∀ o, W0.frozen? ⟨w.heap.size, o, none⟩ = false) ∧ (∀ o, W0.frozen? ⟨w.heap.size + 1, o, none⟩ = false)) := ⟨k0, k1⟩
  clear k0 k1
  have A0 : Hid (LvIn W0 a0 l0 lv ∧ IdIn W0 a1 l1 ids ∧ i64 pred ∧ i64 n) := ⟨h.below (Nat.le_refl _) b0, h1.below (Nat.le_refl _) b0, hp, hn⟩
  clear h h1 hp hn
  obtain ⟨ι, F, _, hF0, hFb, hFc⟩ := grown_fam W0
  have F0 : ∀ i, (F i).cell? ⟨w.heap.size, 0, none⟩ = some (.int .u64 id) := fun i => cell_grown f0 (hFb i)
  have F1 : ∀ i, (F i).cell? ⟨w.heap.size, 1, none⟩ = some (.int .i64 pred) := fun i => cell_grown f1 (hFb i)
  have HF : Hid ((∃ i, { W0 with drawn := W0.drawn + 1 } = F i) ∧ (∀ i, Below W0.heap.size W0 (F i)) ∧ (∀ i W, Below W0.heap.size (F i) W → ∃ j, W = F j)) := ⟨hF0, hFb, hFc⟩
  have HG : Hid (W0.cell? ⟨w.heap.size, 0, none⟩ = some (.int .u64 id) ∧ W0.cell? ⟨w.heap.size, 1, none⟩ = some (.int .i64 pred) ∧ W0.cell? ⟨w.heap.size, 2, none⟩ = some (.slice sa sl sc) ∧ W0.cell? ⟨w.heap.size + 1, 0, none⟩ = some (.int .u64 0) ∧ W0.cell? ⟨w.heap.size + 1, 1, none⟩ = some (.int .i64 0) ∧ W0.cell? ⟨w.heap.size + 1, 2, none⟩ = some (.slice none 0 0)) := ⟨f0, f1, f2, g0, g1, g2⟩
  have B0 : Hid (Below w.heap.size w W0 ∧ W0.heap.size = w.heap.size + 2) := ⟨b0, s0⟩
  clear hF0 hFb hFc b0 s0 f0 f1 f2 g0 g1 g2
  cases hq : livesB lv pred
  · have HQ : Hid _ := hq
    have HR : Hid (rectI lv ids id pred n = n) := rect_dead hq
    clear hq
    go_enter Try.func9, Try.ntmps9
    go_wp2_with fail
    rw [← hW0]
    clear hW0
    refine wp_region_fam F HF.out.1 (by kernel_rfl) (by kernel_rfl) ?_
    repeat (go_big_quiet_step (first
      | (go_at_call 17; refine (plives_any _ _ _ _ _ _ _ (A0.out.1.below (Nat.le_refl _) (HF.out.2.1 _)) A0.out.2.2.1).mono ?_; rintro e' w' ⟨hs, hb⟩; exact ⟨by rw [hs, HQ.out], HF.out.2.2 _ _ (hb.mono (HF.out.2.1 _).size)⟩)))
    refine wpQuiet_nil ?_
    rintro _ ⟨i, rfl⟩
    have BF := HF.out.2.1 i
    have BW : Hid (Below w.heap.size w (F i)) := B0.out.1.trans (BF.mono B0.out.1.size)
    have c0 := cell_grown HG.out.1 BF
    have c1 := cell_grown HG.out.2.1 BF
    have c2 := cell_grown HG.out.2.2.1 BF
    have c3 := cell_grown HG.out.2.2.2.1 BF
    have c4 := cell_grown HG.out.2.2.2.2.1 BF
    have c5 := cell_grown HG.out.2.2.2.2.2 BF
    have z0 : w.heap.size < (F i).heap.size := by have := BF.size; have := B0.out.2; omega
    have z1 : w.heap.size + 1 < (F i).heap.size := by have := BF.size; have := B0.out.2; omega
    have k0 : ∀ o, (F i).frozen? ⟨w.heap.size, o, none⟩ = false := fun o => (BF.frozen (p := ⟨w.heap.size, o, none⟩) (by have := B0.out.2; show w.heap.size < _; omega)).trans (HK.out.1 o)
    have k1 : ∀ o, (F i).frozen? ⟨w.heap.size + 1, o, none⟩ = false := fun o => (BF.frozen (p := ⟨w.heap.size + 1, o, none⟩) (by have := B0.out.2; show w.heap.size + 1 < _; omega)).trans (HK.out.2 o)
    generalize F i = Wn at k0 k1 BW c0 c1 c2 c3 c4 c5 z0 z1
    clear BF F0 F1 HF HG B0 A0
    go_wp2
    refine bodyPost_ret (v := .agg #[.int .u64 id, .int .i64 n, .slice sa sl sc]) (by simp [results, Try.results9, go_sem, *]) rfl ⟨by rw [HR.out], ?_⟩
    exact BW.out.trans (((((Below.refl _ _).setCell (by simp) _).setCell (by simp) _).setCell (by simp) _).setCell (by simp) _)
  · have HQ : Hid _ := hq
    by_cases hn1 : n = -1
    · subst hn1
      have HR : Hid (rectI lv ids id pred (-1) = pred) := rect_no hq rfl
      clear hq
      go_enter Try.func9, Try.ntmps9
      go_wp2_with fail
      rw [← hW0]
      clear hW0
      refine wp_region_fam F HF.out.1 (by kernel_rfl) (by kernel_rfl) ?_
      repeat (go_big_quiet_step (first
        | (go_at_call 17; refine (plives_any _ _ _ _ _ _ _ (A0.out.1.below (Nat.le_refl _) (HF.out.2.1 _)) A0.out.2.2.1).mono ?_; rintro e' w' ⟨hs, hb⟩; exact ⟨by rw [hs, HQ.out], HF.out.2.2 _ _ (hb.mono (HF.out.2.1 _).size)⟩)))
      refine wpQuiet_nil ?_
      rintro _ ⟨i, rfl⟩
      have BF := HF.out.2.1 i
      have BW : Hid (Below w.heap.size w (F i)) := B0.out.1.trans (BF.mono B0.out.1.size)
      have c0 := cell_grown HG.out.1 BF
      have c1 := cell_grown HG.out.2.1 BF
      have c2 := cell_grown HG.out.2.2.1 BF
      have c3 := cell_grown HG.out.2.2.2.1 BF
      have c4 := cell_grown HG.out.2.2.2.2.1 BF
      have c5 := cell_grown HG.out.2.2.2.2.2 BF
      have z0 : w.heap.size < (F i).heap.size := by have := BF.size; have := B0.out.2; omega
      have z1 : w.heap.size + 1 < (F i).heap.size := by have := BF.size; have := B0.out.2; omega
      have k0 : ∀ o, (F i).frozen? ⟨w.heap.size, o, none⟩ = false := fun o => (BF.frozen (p := ⟨w.heap.size, o, none⟩) (by have := B0.out.2; show w.heap.size < _; omega)).trans (HK.out.1 o)
      have k1 : ∀ o, (F i).frozen? ⟨w.heap.size + 1, o, none⟩ = false := fun o => (BF.frozen (p := ⟨w.heap.size + 1, o, none⟩) (by have := B0.out.2; show w.heap.size + 1 < _; omega)).trans (HK.out.2 o)
      generalize F i = Wn at k0 k1 BW c0 c1 c2 c3 c4 c5 z0 z1
      clear BF F0 F1 HF HG B0 A0
      go_wp2
      refine bodyPost_ret (v := .agg #[.int .u64 id, .int .i64 pred, .slice sa sl sc]) (by simp [results, Try.results9, go_sem, *]) rfl ⟨by rw [HR.out], ?_⟩
      exact BW.out.trans ((((Below.refl _ _).setCell (by simp) _).setCell (by simp) _).setCell (by simp) _)
    · have hne : (n != -1) = true := by simpa using hn1
      cases hwi : withinB (idI ids n) (idI ids pred) id
      · have HR : Hid (rectI lv ids id pred n = pred) := rect_no hq (by rw [hwi]; simp)
        have HW : Hid _ := hwi
        clear hq hwi
        go_enter Try.func9, Try.ntmps9
        go_wp2_with fail
        rw [← hW0]
        clear hW0
        refine wp_region_fam F HF.out.1 (by kernel_rfl) (by kernel_rfl) ?_
        repeat (go_big_quiet_step (first
          | (go_at_call 17; refine (plives_any _ _ _ _ _ _ _ (A0.out.1.below (Nat.le_refl _) (HF.out.2.1 _)) A0.out.2.2.1).mono ?_; rintro e' w' ⟨hs, hb⟩; exact ⟨by rw [hs, HQ.out], HF.out.2.2 _ _ (hb.mono (HF.out.2.1 _).size)⟩)
          | (refine (id_w _ _ _ _ _ _ _ (A0.out.2.1.below (Nat.le_refl _) (HF.out.2.1 _)) (by first | exact A0.out.2.2.1 | exact A0.out.2.2.2)).mono ?_; rintro e' w' ⟨hs, hb⟩; exact ⟨hs, HF.out.2.2 _ _ (hb.mono (HF.out.2.1 _).size)⟩)
          | (go_at_call 15; refine (within_any _ _ _ _).mono ?_; rintro e' w' ⟨hs, hb⟩; exact ⟨by rw [hs, HW.out], _, hb⟩)))
        refine wpQuiet_nil ?_
        rintro _ ⟨i, rfl⟩
        have BF := HF.out.2.1 i
        have BW : Hid (Below w.heap.size w (F i)) := B0.out.1.trans (BF.mono B0.out.1.size)
        have c0 := cell_grown HG.out.1 BF
        have c1 := cell_grown HG.out.2.1 BF
        have c2 := cell_grown HG.out.2.2.1 BF
        have c3 := cell_grown HG.out.2.2.2.1 BF
        have c4 := cell_grown HG.out.2.2.2.2.1 BF
        have c5 := cell_grown HG.out.2.2.2.2.2 BF
        have z0 : w.heap.size < (F i).heap.size := by have := BF.size; have := B0.out.2; omega
        have z1 : w.heap.size + 1 < (F i).heap.size := by have := BF.size; have := B0.out.2; omega
        have k0 : ∀ o, (F i).frozen? ⟨w.heap.size, o, none⟩ = false := fun o => (BF.frozen (p := ⟨w.heap.size, o, none⟩) (by have := B0.out.2; show w.heap.size < _; omega)).trans (HK.out.1 o)
        have k1 : ∀ o, (F i).frozen? ⟨w.heap.size + 1, o, none⟩ = false := fun o => (BF.frozen (p := ⟨w.heap.size + 1, o, none⟩) (by have := B0.out.2; show w.heap.size + 1 < _; omega)).trans (HK.out.2 o)
        generalize F i = Wn at k0 k1 BW c0 c1 c2 c3 c4 c5 z0 z1
        clear BF F0 F1 HF HG B0 A0
        go_wp2
        refine bodyPost_ret (v := .agg #[.int .u64 id, .int .i64 pred, .slice sa sl sc]) (by simp [results, Try.results9, go_sem, *]) rfl ⟨by rw [HR.out], ?_⟩
        exact BW.out.trans ((((Below.refl _ _).setCell (by simp) _).setCell (by simp) _).setCell (by simp) _)
      · have HR : Hid (rectI lv ids id pred n = n) := rect_in (by rw [hwi, hne]; rfl)
        have HW : Hid _ := hwi
        clear hq hwi
        go_enter Try.func9, Try.ntmps9
        go_wp2_with fail
        rw [← hW0]
        clear hW0
        refine wp_region_fam F HF.out.1 (by kernel_rfl) (by kernel_rfl) ?_
        repeat (go_big_quiet_step (first
          | (go_at_call 17; refine (plives_any _ _ _ _ _ _ _ (A0.out.1.below (Nat.le_refl _) (HF.out.2.1 _)) A0.out.2.2.1).mono ?_; rintro e' w' ⟨hs, hb⟩; exact ⟨by rw [hs, HQ.out], HF.out.2.2 _ _ (hb.mono (HF.out.2.1 _).size)⟩)
          | (refine (id_w _ _ _ _ _ _ _ (A0.out.2.1.below (Nat.le_refl _) (HF.out.2.1 _)) (by first | exact A0.out.2.2.1 | exact A0.out.2.2.2)).mono ?_; rintro e' w' ⟨hs, hb⟩; exact ⟨hs, HF.out.2.2 _ _ (hb.mono (HF.out.2.1 _).size)⟩)
          | (go_at_call 15; refine (within_any _ _ _ _).mono ?_; rintro e' w' ⟨hs, hb⟩; exact ⟨by rw [hs, HW.out], _, hb⟩)))
        refine wpQuiet_nil ?_
        rintro _ ⟨i, rfl⟩
        have BF := HF.out.2.1 i
        have BW : Hid (Below w.heap.size w (F i)) := B0.out.1.trans (BF.mono B0.out.1.size)
        have c0 := cell_grown HG.out.1 BF
        have c1 := cell_grown HG.out.2.1 BF
        have c2 := cell_grown HG.out.2.2.1 BF
        have c3 := cell_grown HG.out.2.2.2.1 BF
        have c4 := cell_grown HG.out.2.2.2.2.1 BF
        have c5 := cell_grown HG.out.2.2.2.2.2 BF
        have z0 : w.heap.size < (F i).heap.size := by have := BF.size; have := B0.out.2; omega
        have z1 : w.heap.size + 1 < (F i).heap.size := by have := BF.size; have := B0.out.2; omega
        have k0 : ∀ o, (F i).frozen? ⟨w.heap.size, o, none⟩ = false := fun o => (BF.frozen (p := ⟨w.heap.size, o, none⟩) (by have := B0.out.2; show w.heap.size < _; omega)).trans (HK.out.1 o)
        have k1 : ∀ o, (F i).frozen? ⟨w.heap.size + 1, o, none⟩ = false := fun o => (BF.frozen (p := ⟨w.heap.size + 1, o, none⟩) (by have := B0.out.2; show w.heap.size + 1 < _; omega)).trans (HK.out.2 o)
        generalize F i = Wn at k0 k1 BW c0 c1 c2 c3 c4 c5 z0 z1
        clear BF F0 F1 HF HG B0 A0
        go_wp2
        refine bodyPost_ret (v := .agg #[.int .u64 id, .int .i64 n, .slice sa sl sc]) (by simp [results, Try.results9, go_sem, *]) rfl ⟨by rw [HR.out], ?_⟩
        exact BW.out.trans (((((Below.refl _ _).setCell (by simp) _).setCell (by simp) _).setCell (by simp) _).setCell (by simp) _)
end Go.Proofs.Ythniahbbnknkoaa
