/- The document's answer for layer 9: who lives, whose place, heads; a world by value. -/
import Derived.Test.YtmajlldfiiokoaaGreatDoorPrHead
import Derived.Deep.CutBlock
import Derived.Deep.DeepCutAuto
import Derived.Test.YtmajlldfiiokoaaGreatDoorRing
import Derived.Test.YtmajlldfiiokoaaGreatDoorFam
import Derived.Test.YtmajlldfiiokoaaGreatDoorOwnSrc
import Derived.Test.YtmajlldfiiokoaaGreatDoorPrList
import Derived.Deep.QuietTactic
import Derived.BigQuiet
import Derived.Deep.LoopGhost
import Derived.Deep.AppendLies
set_option linter.unnecessarySimpa false
namespace Go.Proofs.YtmajlldfiiokoaaGreatDoor
open Go.ChangeShapes Go.WideShapes Go.ChangeAt Go.RowKit Go.Deep
set_option linter.unusedVariables false

/-- A world of the document's, as a value. -/
structure RfW (w : World) (lv : List Bool) (ids : List Int) (v : Value) : Prop where
  ex : ∃ a n c b m d, v = .agg #[.slice a n c, .slice b m d] ∧ LvIn w a n lv ∧ IdIn w b m ids
theorem RfW.below {w w' : World} {lv : List Bool} {ids : List Int} {v : Value} (h : RfW w lv ids v) (hb : Below w.heap.size w w') : RfW w' lv ids v := by
  obtain ⟨a, n, c, b, m, d, e, h1, h2⟩ := h.ex
  exact ⟨a, n, c, b, m, d, e, h1.below (Nat.le_refl _) hb, h2.below (Nat.le_refl _) hb⟩
set_option maxHeartbeats 1000000 in
theorem rlives_r (lv : List Bool) (ids : List Int) (v : Value) (n : Int) (w : World) (h : RfW w lv ids v) :
    Calls Tryz.prog 105 #[v, .int .i64 n] w fun e w' => e = .returned (.bool (livesB lv n)) ∧ Below w.heap.size w w' := by
  obtain ⟨a, k, c, b, m, d, rfl, h1, h2⟩ := h.ex
  have hk : lv.length = k := h1.1
  have hmx := h1.2.1
  by_cases n0 : n < 0
  · have E : Hid (livesB lv n = false) := lives_neg n0
    go_enter Tryz.func105, Tryz.ntmps105
    go_wp2
    go_ret
    exact ⟨ret_b E.out.symm, below_one _ _⟩
  · by_cases nk : n < k
    · have hlt : n.toNat < k := by omega
      obtain ⟨g, o, rfl, hg, _, hc⟩ := (h1.below (Nat.le_refl _) (below_one w (.cells #[.slice a k c, .slice b m d] 29))).one (v := Value.bool) (fun _ => rfl) (i := n.toNat) hlt
      have E : Hid (livesB lv n = lv.getD n.toNat false) := lives_at (by omega)
      obtain ⟨j, hj⟩ : ∃ j : Nat, n = (j : Int) := ⟨n.toNat, by omega⟩
      subst hj
      simp only [Int.toNat_natCast] at hc E hlt
      generalize lv.getD j false = y at hc E
      clear h h1 h2
      go_enter Tryz.func105, Tryz.ntmps105
      go_wp2
      go_ret
      exact ⟨ret_b (by rw [E.out]), below_one _ _⟩
    · have E : Hid (livesB lv n = false) := lives_out (by omega)
      clear h h1 h2
      go_enter Tryz.func105, Tryz.ntmps105
      go_wp2
      go_ret
      exact ⟨ret_b E.out.symm, below_one _ _⟩
set_option maxHeartbeats 1000000 in
theorem rid_r (lv : List Bool) (ids : List Int) (v : Value) (n : Int) (w : World) (h : RfW w lv ids v) :
    Calls Tryz.prog 108 #[v, .int .i64 n] w fun e w' => e = .returned (.int .u64 (idI ids n)) ∧ Below w.heap.size w w' := by
  obtain ⟨a, k, c, b, m, d, rfl, h1, h2⟩ := h.ex
  have hk : ids.length = m := h2.1
  have hmx := h2.2.1
  by_cases n0 : n < 0
  · have E : Hid (idI ids n = 0) := id_neg n0
    go_enter Tryz.func108, Tryz.ntmps108
    go_wp2
    go_ret
    exact ⟨by rw [E.out]; rfl, below_one _ _⟩
  · by_cases nk : n < m
    · have hlt : n.toNat < m := by omega
      obtain ⟨g, o, rfl, hg, _, hc⟩ := (h2.below (Nat.le_refl _) (below_one w (.cells #[.slice a k c, .slice b m d] 29))).one (v := Value.int .u64) (fun _ => rfl) (i := n.toNat) hlt
      have E : Hid (idI ids n = ids.getD n.toNat 0) := id_at (by omega)
      obtain ⟨j, hj⟩ : ∃ j : Nat, n = (j : Int) := ⟨n.toNat, by omega⟩
      subst hj
      simp only [Int.toNat_natCast] at hc E hlt
      generalize ids.getD j 0 = y at hc E
      clear h h1 h2
      go_enter Tryz.func108, Tryz.ntmps108
      go_wp2
      go_ret
      exact ⟨by rw [E.out]; rfl, below_one _ _⟩
    · have E : Hid (idI ids n = 0) := id_out (by omega)
      clear h h1 h2
      go_enter Tryz.func108, Tryz.ntmps108
      go_wp2
      go_ret
      exact ⟨by rw [E.out]; rfl, below_one _ _⟩

set_option maxHeartbeats 2000000 in
theorem rhead_r (lv : List Bool) (ids : List Int) (v : Value) (id pred : Value) (a : Option Addr) (len cap : Nat) (l : List Int) (w : World) (h : RfW w lv ids v) (hl : InIn w a len l) :
    Calls Tryz.prog 106 #[.agg #[id, pred, .slice a len cap], v] w fun e w' => e = .returned (.int .i64 (headI lv l)) ∧ Below w.heap.size w w' := by
  have HL : Hid (InIn w a len l) := hl
  have HN : Hid (l.length = len) := hl.1
  have HW : Hid (RfW w lv ids v) := h
  have hm := hl.2.1
  obtain ⟨a9, n9, c9, b9, m9, d9, hv, _, _⟩ := h.ex
  subst hv
  clear hl h
  obtain ⟨W1, hW1⟩ : ∃ W1, W1 = (w.alloc (.cells #[id, pred, .slice a len cap] 140)).alloc (.cells #[.slice a9 n9 c9, .slice b9 m9 d9] 29) := ⟨_, rfl⟩
  have b1 : Below w.heap.size w W1 := by rw [hW1]; exact (below_one _ _).trans ((below_one _ _).mono (by simp))
  have e0 : W1.heap[w.heap.size]? = some (.cells #[id, pred, .slice a len cap] 140 (0, 0)) := by rw [hW1, Below.heap_alloc _ _ _ (by simp)]; exact heap_alloc_new w _
  have e1 : W1.heap[w.heap.size + 1]? = some (.cells #[.slice a9 n9 c9, .slice b9 m9 d9] 29 (0, 0)) := by rw [hW1]; simpa using heap_alloc_new (w.alloc (.cells #[id, pred, .slice a len cap] 140)) (.cells #[.slice a9 n9 c9, .slice b9 m9 d9] 29)
  have x2 : W1.cell? ⟨w.heap.size, 2, none⟩ = some (.slice a len cap) := by simp [World.cell?, e0]
  have y0 : W1.cell? ⟨w.heap.size + 1, 0, none⟩ = some (.slice a9 n9 c9) := by simp [World.cell?, e1]
  have y1 : W1.cell? ⟨w.heap.size + 1, 1, none⟩ = some (.slice b9 m9 d9) := by simp [World.cell?, e1]
  have xz := cell_block x2
  have H1 : Hid (Below w.heap.size w W1 ∧ W1.cell? ⟨w.heap.size + 1, 0, none⟩ = some (.slice a9 n9 c9) ∧ W1.cell? ⟨w.heap.size + 1, 1, none⟩ = some (.slice b9 m9 d9)) := ⟨b1, y0, y1⟩
  clear b1 e0 e1 y0 y1
  go_enter Tryz.func106, Tryz.ntmps106
  go_upto_region 1 with fail
  rw [← hW1]
  clear hW1
  go_wp2
  clear x2 xz
  go_loopg [10] len (fun kx s wr => ∃ k : Nat, s = .int .i64 k ∧ k ≤ len ∧ kx = len - k ∧ Hid (Below W1.heap.size W1 wr) ∧ Hid (headI lv (l.drop k) = headI lv l))
  case atStart => exact ⟨0, rfl, Nat.zero_le _, rfl, (Below.refl _ _ : Below W1.heap.size W1 W1), (rfl : headI lv (l.drop 0) = headI lv l)⟩
  case round =>
    obtain ⟨k, rfl, hk, rfl, HB, I⟩ := hrel
    have BB : Hid (Below w.heap.size w wr) := H1.out.1.trans (HB.out.mono H1.out.1.size)
    by_cases hlt : k < len
    · obtain ⟨b, o, rfl, hb, hx, hc⟩ := (HL.out.below (Nat.le_refl _) BB.out).one (v := Value.int .i64) (fun _ => rfl) (i := k) hlt
      have E : Hid (headI lv (l.drop k) = if livesB lv (l.getD k 0) then l.getD k 0 else headI lv (l.drop (k + 1))) := head_drop lv l k (by rw [HN.out]; exact hlt)
      have y0 := cell_grown H1.out.2.1 HB.out
      have y1 := cell_grown H1.out.2.2 HB.out
      have yz := cell_block y0
      generalize l.getD k 0 = x at hx hc E
      clear hx
      cases hq : livesB lv x
      all_goals
        have HQ : Hid _ := hq
        clear hq
        go_wp2_with (go_at_call 105; refine (rlives_r lv ids _ _ _ (HW.out.below BB.out)).mono ?_; rintro e w' ⟨rfl, hb'⟩; rw [HQ.out])
      · go_roundg (len - (k + 1))
        case measure => omega
        case rel => exact ⟨k + 1, by go_num, by omega, rfl, HB.out.trans (hb'.mono HB.out.size), by rw [← I.out, E.out, HQ.out]; rfl⟩
      · go_ret
        exact ⟨ret_i (by rw [← I.out, E.out, HQ.out]; rfl), BB.out.trans (hb'.mono BB.out.size)⟩
    · go_wp2
      go_ret
      exact ⟨ret_i (by rw [← I.out, List.drop_of_length_le (by rw [HN.out]; omega)]; rfl), BB.out⟩
end Go.Proofs.YtmajlldfiiokoaaGreatDoor

/- The document's answers of layer 1 (wigwagref01) are the same plain functions. -/
namespace Go.Proofs.YtmajlldfiiokoaaGreatDoor
open Go.ChangeShapes Go.WideShapes Go.ChangeAt Go.RowKit

theorem refdist_any (a b : Int) (w : World) (ha : 0 ≤ a ∧ a ≤ 18446744073709551615) (hb : 0 ≤ b ∧ b ≤ 18446744073709551615) :
    Calls Tryz.prog 121 #[.int .u64 a, .int .u64 b] w fun e w' => e = .returned (.int .u64 (dist a b)) ∧ w' = w := by
  obtain ⟨ha0, ha1⟩ := ha
  obtain ⟨hb0, hb1⟩ := hb
  by_cases h : a ≤ b
  · go_enter Tryz.func121, Tryz.ntmps121
    go_wp2
    go_ret
    refine ⟨ret_i ?_, rfl⟩
    unfold dist
    first | omega | (show (b - a) % 18446744073709551616 = _; omega)
  · go_enter Tryz.func121, Tryz.ntmps121
    go_wp2
    go_ret
    refine ⟨ret_i ?_, rfl⟩
    unfold dist
    omega

theorem refwithin_any (x a b : Int) (w : World) (hx : 0 ≤ x ∧ x ≤ 18446744073709551615) (ha : 0 ≤ a ∧ a ≤ 18446744073709551615) (hb : 0 ≤ b ∧ b ≤ 18446744073709551615) :
    Calls Tryz.prog 107 #[.int .u64 x, .int .u64 a, .int .u64 b] w fun e w' => e = .returned (.bool (withinB x a b)) ∧ w' = w := by
  obtain ⟨hx0, hx1⟩ := hx
  obtain ⟨ha0, ha1⟩ := ha
  obtain ⟨hb0, hb1⟩ := hb
  by_cases h1 : (a == b) = true
  · by_cases h2 : (x != a) = true
    · go_enter Tryz.func107, Tryz.ntmps107
      go_wp2
      go_ret
      exact ⟨ret_b (by rw [withinB, h1, h2]; rfl), rfl⟩
    · have h2 : (x != a) = false := by simpa using h2
      go_enter Tryz.func107, Tryz.ntmps107
      go_wp2
      go_ret
      exact ⟨ret_b (by rw [withinB, h1, h2]; rfl), rfl⟩
  · have h1 : (a == b) = false := by simpa using h1
    have n1 : a ≠ b := beq_eq_false_iff_ne.1 h1
    have key : withinB x a b = decide (if a < b then a < x ∧ x < b else a < x ∨ x < b) := by
      by_cases hxa : x = a
      · subst hxa
        have : withinB x x b = false := by rw [withinB]; simp
        rw [this]; symm; rw [decide_eq_false_iff_not]; split <;> omega
      · rw [within_of x a b hxa n1, decide_eq_decide]; unfold dist; split <;> omega
    have key' : Hid (withinB x a b = decide (if a < b then a < x ∧ x < b else a < x ∨ x < b)) := key
    clear key n1
    by_cases h2 : a < b
    · by_cases h3 : a < x
      · by_cases h4 : x < b
        all_goals
          go_enter Tryz.func107, Tryz.ntmps107
          go_wp2
          go_ret
          exact ⟨ret_b (by rw [key'.out]; simp [h2, h3, h4]), rfl⟩
      · go_enter Tryz.func107, Tryz.ntmps107
        go_wp2
        go_ret
        exact ⟨ret_b (by rw [key'.out]; symm; rw [decide_eq_false_iff_not, if_pos h2]; omega), rfl⟩
    · by_cases h3 : a < x
      · go_enter Tryz.func107, Tryz.ntmps107
        go_wp2
        go_ret
        exact ⟨ret_b (by rw [key'.out]; simp [h2, h3]), rfl⟩
      · by_cases h4 : x < b
        all_goals
          go_enter Tryz.func107, Tryz.ntmps107
          go_wp2
          go_ret
          exact ⟨ret_b (by rw [key'.out]; simp [h2, h3, h4]), rfl⟩

end Go.Proofs.YtmajlldfiiokoaaGreatDoor

/- The document's answer for layer 9: Nearer, Follow. -/
namespace Go.Proofs.YtmajlldfiiokoaaGreatDoor
open Go.ChangeShapes Go.WideShapes Go.ChangeAt Go.RowKit Go.Deep
set_option linter.unusedVariables false

theorem RfW.u {w : World} {lv : List Bool} {ids : List Int} {v : Value} (h : RfW w lv ids v) (n : Int) : 0 ≤ idI ids n ∧ idI ids n ≤ 18446744073709551615 := by
  obtain ⟨a, k, c, b, m, d, _, _, h2⟩ := h.ex
  by_cases n0 : n < 0
  · rw [id_neg n0]; omega
  · by_cases nk : n < ids.length
    · rw [id_at (by omega)]
      obtain ⟨_, _, _, _, hu, _⟩ := h2.one (v := Value.int .u64) (fun _ => rfl) (i := n.toNat) (by rw [← h2.1]; omega)
      exact hu
    · rw [id_out (by omega)]; omega
def nearI (lv : List Bool) (ids : List Int) (q frm tgt : Int) : Bool := q != -1 && (livesB lv q && withinB (idI ids q) frm (idI ids tgt))
set_option maxRecDepth 100000 in
set_option maxHeartbeats 2000000 in
theorem rnearer_r (lv : List Bool) (ids : List Int) (v : Value) (q frm tgt : Int) (w : World) (h : RfW w lv ids v) (hf : 0 ≤ frm ∧ frm ≤ 18446744073709551615) :
    Calls Tryz.prog 111 #[.int .i64 q, .int .u64 frm, .int .i64 tgt, v] w fun e w' => e = .returned (.bool (nearI lv ids q frm tgt)) ∧ Below w.heap.size w w' := by
  have HW : Hid (RfW w lv ids v ∧ 0 ≤ frm ∧ frm ≤ 18446744073709551615) := ⟨h, hf⟩
  obtain ⟨a9, n9, c9, b9, m9, d9, hv, _, _⟩ := h.ex
  subst hv
  clear h hf
  obtain ⟨W1, hW1⟩ : ∃ W1, W1 = w.alloc (.cells #[.slice a9 n9 c9, .slice b9 m9 d9] 29) := ⟨_, rfl⟩
  have b1 : Hid (Below w.heap.size w W1) := by rw [hW1]; exact below_one _ _
  have y0 : W1.cell? ⟨w.heap.size, 0, none⟩ = some (.slice a9 n9 c9) := by rw [hW1]; simp
  have y1 : W1.cell? ⟨w.heap.size, 1, none⟩ = some (.slice b9 m9 d9) := by rw [hW1]; simp
  obtain ⟨ι, F, _, hF0, hFb, hFc⟩ := grown_fam W1
  have F0 : ∀ i, (F i).cell? ⟨w.heap.size, 0, none⟩ = some (.slice a9 n9 c9) := fun i => cell_grown y0 (hFb i)
  have F1 : ∀ i, (F i).cell? ⟨w.heap.size, 1, none⟩ = some (.slice b9 m9 d9) := fun i => cell_grown y1 (hFb i)
  have HF : Hid ((∃ i, { W1 with drawn := W1.drawn + 1 } = F i) ∧ (∀ i, Below W1.heap.size W1 (F i)) ∧ (∀ i W, Below W1.heap.size (F i) W → ∃ j, W = F j)) := ⟨hF0, hFb, hFc⟩
  have HR : Hid (∀ i, RfW (F i) lv ids (.agg #[.slice a9 n9 c9, .slice b9 m9 d9])) := fun i => (HW.out.1.below b1.out).below (hFb i)
  clear hF0 hFb hFc y0 y1
  by_cases hq : q = -1
  · have E : Hid (nearI lv ids q frm tgt = false) := by show nearI lv ids q frm tgt = false; simp [nearI, hq]
    subst hq
    go_enter Tryz.func111, Tryz.ntmps111
    go_upto_region 1 with fail
    rw [← hW1]
    clear hW1
    refine wp_region_fam F HF.out.1 (by kernel_rfl) (by kernel_rfl) ?_
    repeat (go_big_quiet_step (fail))
    refine wpQuiet_nil ?_
    rintro _ ⟨i, rfl⟩
    have BF := b1.out.trans ((HF.out.2.1 i).mono b1.out.size)
    clear F0 F1
    generalize F i = Wn at BF
    go_wp2
    go_ret
    exact ⟨ret_b E.out.symm, BF⟩
  · have hq' : (q != -1) = true := by simpa using hq
    cases hl : livesB lv q
    · have E : Hid (nearI lv ids q frm tgt = false) := by show nearI lv ids q frm tgt = false; simp [nearI, hl]
      have HQ : Hid _ := hl
      clear hl
      go_enter Tryz.func111, Tryz.ntmps111
      go_upto_region 1 with fail
      rw [← hW1]
      clear hW1
      refine wp_region_fam F HF.out.1 (by kernel_rfl) (by kernel_rfl) ?_
      repeat (go_big_quiet_step (first
        | (go_at_call 105; refine (rlives_r lv ids _ q _ (HR.out _)).mono ?_; rintro e' w' ⟨hs, hb⟩; exact ⟨by rw [hs, HQ.out], HF.out.2.2 _ _ (hb.mono (HF.out.2.1 _).size)⟩)))
      refine wpQuiet_nil ?_
      rintro _ ⟨i, rfl⟩
      have BF := b1.out.trans ((HF.out.2.1 i).mono b1.out.size)
      clear F0 F1
      generalize F i = Wn at BF
      go_wp2
      go_ret
      exact ⟨ret_b E.out.symm, BF⟩
    · have E : Hid (nearI lv ids q frm tgt = withinB (idI ids q) frm (idI ids tgt)) := by show nearI lv ids q frm tgt = _; simp [nearI, hl, hq']
      have HQ : Hid _ := hl
      clear hl
      have uq := HW.out.1.u q
      have ut := HW.out.1.u tgt
      have HU : Hid ((0 ≤ idI ids q ∧ idI ids q ≤ 18446744073709551615) ∧ (0 ≤ idI ids tgt ∧ idI ids tgt ≤ 18446744073709551615)) := ⟨uq, ut⟩
      clear uq ut
      obtain ⟨bb, hbb⟩ : ∃ bb, withinB (idI ids q) frm (idI ids tgt) = bb := ⟨_, rfl⟩
      have HBB : Hid _ := hbb
      clear hbb
      go_enter Tryz.func111, Tryz.ntmps111
      go_upto_region 1 with fail
      rw [← hW1]
      clear hW1
      refine wp_region_fam F HF.out.1 (by kernel_rfl) (by kernel_rfl) ?_
      repeat (go_big_quiet_step (first
        | (go_at_call 105; refine (rlives_r lv ids _ q _ (HR.out _)).mono ?_; rintro e' w' ⟨hs, hb⟩; exact ⟨by rw [hs, HQ.out], HF.out.2.2 _ _ (hb.mono (HF.out.2.1 _).size)⟩)
        | (go_at_call 107; refine (refwithin_any _ _ _ _ HU.out.1 HW.out.2 HU.out.2).mono ?_; rintro e' w' ⟨hs, hb⟩; exact ⟨by rw [hs, HBB.out], HF.out.2.2 _ _ (by rw [hb]; exact Below.refl _ _)⟩)
        | (go_at_call 108; refine (rid_r lv ids _ _ _ (HR.out _)).mono ?_; rintro e' w' ⟨hs, hb⟩; exact ⟨hs, HF.out.2.2 _ _ (hb.mono (HF.out.2.1 _).size)⟩)))
      refine wpQuiet_nil ?_
      rintro _ ⟨i, rfl⟩
      have BF := b1.out.trans ((HF.out.2.1 i).mono b1.out.size)
      clear F0 F1
      generalize F i = Wn at BF
      go_wp2
      go_ret
      exact ⟨ret_b (by rw [E.out, HBB.out]), BF⟩
end Go.Proofs.YtmajlldfiiokoaaGreatDoor

/- The document's answer for layer 9: Follow, Rectify. -/
namespace Go.Proofs.YtmajlldfiiokoaaGreatDoor
open Go.ChangeShapes Go.WideShapes Go.ChangeAt Go.RowKit Go.Deep
set_option linter.unusedVariables false

theorem take2_step {l : List Int} {k : Nat} (hk : k < l.length) : (l.take 2).take (k + 1) = if k < 2 then (l.take 2).take k ++ [l.getD k 0] else (l.take 2).take k := by
  have e : l.getD k 0 = l[k] := by simp [List.getD, hk]
  split
  · rename_i h
    have hk2 : k < (l.take 2).length := by simp; omega
    rw [List.take_succ_eq_append_getElem hk2, e]
    simp
  · rename_i h
    have h1 : (l.take 2).take (k + 1) = l.take 2 := List.take_of_length_le (by simp; omega)
    have h2 : (l.take 2).take k = l.take 2 := List.take_of_length_le (by simp; omega)
    rw [h1, h2]
set_option maxRecDepth 100000 in
set_option maxHeartbeats 2000000 in
theorem rfollow_r (s : Int) (id pred : Value) (a : Option Addr) (len cap : Nat) (l : List Int) (w : World) (hl : InIn w a len l) (hs : i64 s) (h3 : len ≤ 1000) :
    Calls Tryz.prog 112 #[.int .i64 s, .agg #[id, pred, .slice a len cap]] w fun e w' => ∃ a' c', e = .returned (.slice a' (1 + min len 2) c') ∧ InIn w' a' (1 + min len 2) (s :: l.take 2) ∧ 1 + min len 2 ≤ c' ∧ c' ≤ 9223372036854775807 ∧ (∀ x, a' = some x → w.heap.size ≤ x.block) ∧ Below w.heap.size w w' := by
  obtain ⟨i0, hif, hz0, hz1, hz2⟩ := info_of Tryz.infoInt
  have HL : Hid (InIn w a len l ∧ i64 s) := ⟨hl, hs⟩
  have HN : Hid (l.length = len) := hl.1
  clear hl hs
  obtain ⟨W1, hW1⟩ : ∃ W1, W1 = (w.alloc (.cells #[id, pred, .slice a len cap] 140)).alloc (.cells #[.int .i64 s] 3) := ⟨_, rfl⟩
  have b1 : Below w.heap.size w W1 := by rw [hW1]; exact (below_one _ _).trans ((below_one _ _).mono (by simp))
  have e0 : W1.heap[w.heap.size]? = some (.cells #[id, pred, .slice a len cap] 140 (0, 0)) := by rw [hW1, Below.heap_alloc _ _ _ (by simp)]; exact heap_alloc_new w _
  have e1 : W1.heap[w.heap.size + 1]? = some (.cells #[.int .i64 s] 3 (0, 0)) := by rw [hW1]; simpa using heap_alloc_new (w.alloc (.cells #[id, pred, .slice a len cap] 140)) (.cells #[.int .i64 s] 3)
  have x2 : W1.cell? ⟨w.heap.size, 2, none⟩ = some (.slice a len cap) := by simp [World.cell?, e0]
  have xz := cell_block x2
  have HO : Hid (W1.ownsRow w.heap.size 3 1 (.slice (some ⟨w.heap.size + 1, 0, none⟩) 1 1) 1 ((s :: (l.take 2).take 0).map cellI)) := ⟨rfl, .inr ⟨w.heap.size + 1, 1, _, rfl, Nat.le_succ _, e1, Nat.le_refl _, by decide, rfl, rfl⟩⟩
  have HB : Hid (Below w.heap.size w W1) := b1
  clear b1 e0 e1
  go_enter Tryz.func112, Tryz.ntmps112
  go_upto_region 2 with fail
  rw [← hW1]
  clear hW1
  go_wp2
  clear x2 xz
  go_loopg [13, 5] len (fun kx sv ov wr => ∃ (k m : Nat) (oa : Option Addr) (oc : Nat), sv = .int .i64 k ∧ k ≤ len ∧ kx = len - k ∧ m = 1 + min k (min len 2) ∧ ov = .slice oa m oc ∧ Hid (Below w.heap.size w wr) ∧ Hid (wr.ownsRow w.heap.size 3 1 (.slice oa m oc) m ((s :: (l.take 2).take k).map cellI)))
  case atStart => exact ⟨0, 1, _, _, rfl, Nat.zero_le _, rfl, by omega, rfl, HB, HO⟩
  case round =>
    obtain ⟨k, m, oa, oc, rfl, hk, rfl, hm, rfl, HB1, HO1⟩ := hrel
    clear HB HO
    by_cases hlt : k < len
    · obtain ⟨b, o, rfl, hb, hx, hc⟩ := (HL.out.1.below (Nat.le_refl _) HB1.out).one (v := Value.int .i64) (fun _ => rfl) (i := k) hlt
      have E : Hid ((l.take 2).take (k + 1) = if k < 2 then (l.take 2).take k ++ [l.getD k 0] else (l.take 2).take k) := take2_step (by rw [HN.out]; exact hlt)
      generalize l.getD k 0 = x at hx hc E
      by_cases h2 : k < 2
      · have hm3 : m < 3 := by omega
        have hm0 : m = 1 + k := by omega
        have HM : Hid (m = 1 + k ∧ k < 2) := ⟨hm0, h2⟩
        have HO2 : Hid ((wr.alloc (.cells #[.int .i64 x] 3)).ownsRow w.heap.size 3 1 (.slice oa m oc) m ((s :: (l.take 2).take k).map cellI)) := HO1.out.alloc (.cells #[.int .i64 x] 3)
        have HS : Hid (Src Tryz.prog 1 24 (.slice (some ⟨wr.heap.size, 0, none⟩) 1 1) 1 [cellI x] (wr.alloc (.cells #[.int .i64 x] 3))) := Src.ofSlice _ Tryz.underlying24 _ _ _ _ rfl (World.news_of_block (cs := #[.int .i64 x]) (t := 3) (fr := (0, 0)) (heap_alloc_new wr _)) (by simp [cellI, Value.oneCell'])
        have hwz := HB1.out.size
        clear hm hm0 h2
        go_wp2_with (at_builtin; refine wpList_own_append _ rfl _ _ 24 24 rfl w.heap.size 3 i0 _ 8 Tryz.underlying24 hif hz0 hz1 hz2 rfl _ _ _ rfl HO2.out _ 1 [cellI x] rfl HS.out ?c3 ?c4 ?c5 ?_)
        case c3 => unfold maxLen; omega
        case c4 => omega
        case c5 => simp; omega
        intro v' w3 ha
        obtain ⟨na, nc, hv'⟩ := ha.shape
        subst hv'
        have HA : Hid _ := ha
        clear ha
        go_wp2
        go_roundg (len - (k + 1))
        case measure => omega
        case rel =>
          refine ⟨k + 1, m + 1, na, nc, by go_num, by omega, rfl, by have := HM.out; omega, rfl, ?_, ?_⟩
          · have hg := HA.out.grown
            have b3 : Below w.heap.size w (wr.alloc (.cells #[.int .i64 x] 3)) := HB1.out.trans ((below_one _ _).mono HB1.out.size)
            exact b3.trans ⟨hg.os, hg.tape, hg.output, hg.size, fun b hb1 => hg.block b (by have := b3.size; omega) (fun e => by have := (World.ownsRow.lt HO2.out b e.symm).1; omega)⟩
          · have hr := HA.out.row
            rw [E.out, if_pos HM.out.2]
            refine (show w3.ownsRow w.heap.size 3 1 (.slice na (m + 1) nc) (m + 1) ((s :: ((l.take 2).take k ++ [x])).map cellI) from ?_)
            simpa using hr
      · have hm3 : ¬ m < 3 := by omega
        have HM : Hid (m = 1 + min (k + 1) (min len 2) ∧ ¬ k < 2) := ⟨by omega, h2⟩
        clear hm h2
        go_wp2
        go_roundg (len - (k + 1))
        case measure => omega
        case rel => exact ⟨k + 1, m, oa, oc, by go_num, by omega, rfl, HM.out.1, rfl, HB1, by rw [E.out, if_neg HM.out.2]; exact HO1.out⟩
    · obtain rfl : k = len := by omega
      have hm2 : m = 1 + min k 2 := by omega
      subst hm2
      go_wp2
      go_ret
      have hr := HO1.out
      rw [List.take_of_length_le (by simp; have := HN.out; omega)] at hr
      have hcp := own_caps hr
      refine ⟨oa, oc, rfl, in_of_own hr (fun x hx => ?_) (by omega), hcp.1, hcp.2, own_new hr, HB1.out⟩
      rcases List.mem_cons.1 hx with e | e
      · rw [e]; exact HL.out.2
      · exact ints_ok HL.out.1 x (List.mem_of_mem_take e)
end Go.Proofs.YtmajlldfiiokoaaGreatDoor

/- The document's answer for layer 9: Rectify. -/
namespace Go.Proofs.YtmajlldfiiokoaaGreatDoor
open Go.ChangeShapes Go.WideShapes Go.ChangeAt Go.RowKit Go.Deep
set_option linter.unusedVariables false

def rectR (lv : List Bool) (ids : List Int) (id pred n : Int) : Int := if pred == -1 || (!livesB lv pred || withinB (idI ids n) (idI ids pred) id) then n else pred
set_option maxRecDepth 100000 in
set_option maxHeartbeats 4000000 in
theorem rrect_r (lv : List Bool) (ids : List Int) (v : Value) (id pred n : Int) (a : Option Addr) (len cap : Nat) (w : World) (h : RfW w lv ids v) (hf : 0 ≤ id ∧ id ≤ 18446744073709551615) :
    Calls Tryz.prog 113 #[.agg #[.int .u64 id, .int .i64 pred, .slice a len cap], .int .i64 n, v] w fun e w' => e = .returned (.agg #[.int .u64 id, .int .i64 (rectR lv ids id pred n), .slice a len cap]) ∧ Below w.heap.size w w' := by
  have HW : Hid (RfW w lv ids v ∧ 0 ≤ id ∧ id ≤ 18446744073709551615) := ⟨h, hf⟩
  obtain ⟨a9, n9, c9, b9, m9, d9, hv, _, _⟩ := h.ex
  subst hv
  clear h hf
  obtain ⟨W1, hW1⟩ : ∃ W1, W1 = ((w.alloc (.cells #[.int .u64 id, .int .i64 pred, .slice a len cap] 140)).alloc (.cells #[.slice a9 n9 c9, .slice b9 m9 d9] 29)).alloc (.cells #[.int .u64 0, .int .i64 0, .slice none 0 0] 140) := ⟨_, rfl⟩
  have b1 : Hid (Below w.heap.size w W1) := by rw [hW1]; exact ((below_one _ _).trans ((below_one _ _).mono (by simp))).trans ((below_one _ _).mono (by simp; omega))
  have e0 : W1.heap[w.heap.size]? = some (.cells #[.int .u64 id, .int .i64 pred, .slice a len cap] 140 (0, 0)) := by
    rw [hW1, Below.heap_alloc _ _ _ (by simp; omega), Below.heap_alloc _ _ _ (by simp)]; exact heap_alloc_new w _
  have e1 : W1.heap[w.heap.size + 1]? = some (.cells #[.slice a9 n9 c9, .slice b9 m9 d9] 29 (0, 0)) := by
    rw [hW1, Below.heap_alloc _ _ _ (by simp)]; simpa using heap_alloc_new (w.alloc (.cells #[.int .u64 id, .int .i64 pred, .slice a len cap] 140)) (.cells #[.slice a9 n9 c9, .slice b9 m9 d9] 29)
  have e2 : W1.heap[w.heap.size + 2]? = some (.cells #[.int .u64 0, .int .i64 0, .slice none 0 0] 140 (0, 0)) := by
    rw [hW1]; simpa using heap_alloc_new ((w.alloc (.cells #[.int .u64 id, .int .i64 pred, .slice a len cap] 140)).alloc (.cells #[.slice a9 n9 c9, .slice b9 m9 d9] 29)) (.cells #[.int .u64 0, .int .i64 0, .slice none 0 0] 140)
  have hs1 : W1.heap.size = w.heap.size + 3 := by rw [hW1]; simp
  obtain ⟨ι, F, _, hF0, hFb, hFc⟩ := grown_fam W1
  have f0 : ∀ i, (F i).heap[w.heap.size]? = some (.cells #[.int .u64 id, .int .i64 pred, .slice a len cap] 140 (0, 0)) := fun i => ((hFb i).block _ (by omega)).trans e0
  have f1 : ∀ i, (F i).heap[w.heap.size + 1]? = some (.cells #[.slice a9 n9 c9, .slice b9 m9 d9] 29 (0, 0)) := fun i => ((hFb i).block _ (by omega)).trans e1
  have f2 : Hid (∀ i, (F i).heap[w.heap.size + 2]? = some (.cells #[.int .u64 0, .int .i64 0, .slice none 0 0] 140 (0, 0)) ∧ (F i).heap[w.heap.size]? = some (.cells #[.int .u64 id, .int .i64 pred, .slice a len cap] 140 (0, 0))) := fun i => ⟨((hFb i).block _ (by omega)).trans e2, f0 i⟩
  have A0 : ∀ i, (F i).cell? ⟨w.heap.size, 0, none⟩ = some (.int .u64 id) := fun i => by simp [World.cell?, f0 i]
  have A1 : ∀ i, (F i).cell? ⟨w.heap.size, 1, none⟩ = some (.int .i64 pred) := fun i => by simp [World.cell?, f0 i]
  have B0 : ∀ i, (F i).cell? ⟨w.heap.size + 1, 0, none⟩ = some (.slice a9 n9 c9) := fun i => by simp [World.cell?, f1 i]
  have B1 : ∀ i, (F i).cell? ⟨w.heap.size + 1, 1, none⟩ = some (.slice b9 m9 d9) := fun i => by simp [World.cell?, f1 i]
  have HF : Hid ((∃ i, { W1 with drawn := W1.drawn + 1 } = F i) ∧ (∀ i, Below W1.heap.size W1 (F i)) ∧ (∀ i W, Below W1.heap.size (F i) W → ∃ j, W = F j)) := ⟨hF0, hFb, hFc⟩
  have HR : Hid (∀ i, RfW (F i) lv ids (.agg #[.slice a9 n9 c9, .slice b9 m9 d9])) := fun i => (HW.out.1.below b1.out).below (hFb i)
  have HU : Hid ((0 ≤ idI ids n ∧ idI ids n ≤ 18446744073709551615) ∧ (0 ≤ idI ids pred ∧ idI ids pred ≤ 18446744073709551615)) := ⟨HW.out.1.u n, HW.out.1.u pred⟩
  clear hF0 hFb hFc f0 f1 e0 e1 e2 hs1
  obtain ⟨bl, hbl⟩ : ∃ bl, livesB lv pred = bl := ⟨_, rfl⟩
  obtain ⟨bw, hbw⟩ : ∃ bw, withinB (idI ids n) (idI ids pred) id = bw := ⟨_, rfl⟩
  obtain ⟨bp, hbp⟩ : ∃ bp, (pred == -1) = bp := ⟨_, rfl⟩
  have HRES : Hid (rectR lv ids id pred n = if bp || (!bl || bw) then n else pred) := by show rectR lv ids id pred n = _; unfold rectR; rw [hbl, hbw, hbp]
  have HBL : Hid _ := hbl
  have HBW : Hid _ := hbw
  clear hbl hbw
  generalize hrr : rectR lv ids id pred n = rr at HRES ⊢
  clear hrr
  cases bp <;> cases bl <;> cases bw
  all_goals
    simp only [Bool.false_or, Bool.true_or, Bool.not_false, Bool.not_true, if_true, Bool.false_eq_true, if_false] at HRES
    have hrr := HRES.out
    subst rr
    go_enter Tryz.func113, Tryz.ntmps113
    go_upto_region 1 with fail
    rw [← hW1]
    clear hW1
    refine wp_region_fam F HF.out.1 (by kernel_rfl) (by kernel_rfl) ?_
    repeat (go_big_quiet_step (first
      | (go_at_call 105; refine (rlives_r lv ids _ pred _ (HR.out _)).mono ?_; rintro e' w' ⟨hs, hb⟩; exact ⟨by rw [hs, HBL.out], HF.out.2.2 _ _ (hb.mono (HF.out.2.1 _).size)⟩)
      | (go_at_call 107; refine (refwithin_any _ _ _ _ HU.out.1 HU.out.2 HW.out.2).mono ?_; rintro e' w' ⟨hs, hb⟩; exact ⟨by rw [hs, HBW.out], HF.out.2.2 _ _ (by rw [hb]; exact Below.refl _ _)⟩)
      | (go_at_call 108; refine (rid_r lv ids _ _ _ (HR.out _)).mono ?_; rintro e' w' ⟨hs, hb⟩; exact ⟨hs, HF.out.2.2 _ _ (hb.mono (HF.out.2.1 _).size)⟩)))
    refine wpQuiet_nil ?_
    rintro _ ⟨i, rfl⟩
    have BF : Hid (Below w.heap.size w (F i)) := b1.out.trans ((HF.out.2.1 i).mono b1.out.size)
    obtain ⟨g2, g0⟩ := f2.out i
    have x0 : (F i).cell? ⟨w.heap.size, 0, none⟩ = some (.int .u64 id) := A0 i
    have x1 : (F i).cell? ⟨w.heap.size, 1, none⟩ = some (.int .i64 pred) := A1 i
    have x2 : (F i).cell? ⟨w.heap.size, 2, none⟩ = some (.slice a len cap) := by simp [World.cell?, g0]
    have t0 : (F i).cell? ⟨w.heap.size + 2, 0, none⟩ = some (.int .u64 0) := by simp [World.cell?, g2]
    have t1 : (F i).cell? ⟨w.heap.size + 2, 1, none⟩ = some (.int .i64 0) := by simp [World.cell?, g2]
    have t2 : (F i).cell? ⟨w.heap.size + 2, 2, none⟩ = some (.slice none 0 0) := by simp [World.cell?, g2]
    have tf : ∀ o, (F i).frozen? ⟨w.heap.size + 2, o, none⟩ = false := fun o => by simp [World.frozen?, g2]
    have xz := cell_block x0
    have tz := cell_block t0
    clear A0 A1 B0 B1 g0 g2 HF HR f2
    generalize F i = Wn at *
    go_wp2
    refine bodyPost_ret (v := .agg #[.int .u64 id, .int .i64 _, .slice a len cap]) (by simp [results, Tryz.results113, go_sem, *]) rfl ⟨rfl, ?_⟩
    have hq : ∀ o : Nat, w.heap.size ≤ (⟨w.heap.size + 2, o, none⟩ : Addr).block := fun o => Nat.le_add_right _ _
    exact ((BF.out.setCell (hq 0) _).setCell (hq 1) _).setCell (hq 2) _
end Go.Proofs.YtmajlldfiiokoaaGreatDoor
