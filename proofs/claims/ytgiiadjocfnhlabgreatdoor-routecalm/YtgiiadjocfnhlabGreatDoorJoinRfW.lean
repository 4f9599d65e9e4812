/- The document's answer for layer 9: who lives, whose place, heads; a world by value. -/
import Derived.Test.YtgiiadjocfnhlabGreatDoorPrHead
import Derived.Deep.CutBlock
import Derived.Deep.DeepCutAuto
import Derived.Test.YtgiiadjocfnhlabGreatDoorRing
import Derived.Test.YtgiiadjocfnhlabGreatDoorFam
import Derived.Test.YtgiiadjocfnhlabGreatDoorOwnSrc
import Derived.Test.YtgiiadjocfnhlabGreatDoorPrList
import Derived.Deep.QuietTactic
import Derived.BigQuiet
import Derived.Deep.LoopGhost
import Derived.Deep.AppendLies
import Derived.Test.YtgiiadjocfnhlabGreatDoorJoinPrInts
import Derived.Deep.Upon
import Derived.Laws.AppendOwn
import Derived.WalkKit
import Derived.Test.YtgiiadjocfnhlabGreatDoorJoinPeSame
import Derived.Test.YtgiiadjocfnhlabGreatDoorSortRing
import Derived.Test.YtgiiadjocfnhlabGreatDoorRiseMath
set_option linter.unnecessarySimpa false
namespace Go.Proofs.YtgiiadjocfnhlabGreatDoor
open Go.ChangeShapes Go.WideShapes Go.ChangeAt Go.RowKit Go.Deep
set_option linter.unusedVariables false

/-- A world of the document's, as a value. -/
structure RfW (w : World) (lv : List Bool) (ids : List Int) (v : Value) : Prop where
  ex : ∃ a n c b m d, v = .agg #[.slice a n c, .slice b m d] ∧ LvIn w a n lv ∧ IdIn w b m ids
theorem RfW.below {w w' : World} {lv : List Bool} {ids : List Int} {v : Value} (h : RfW w lv ids v) (hb : Below w.heap.size w w') : RfW w' lv ids v := by
  obtain ⟨a, n, c, b, m, d, e, h1, h2⟩ := h.ex
  exact ⟨a, n, c, b, m, d, e, h1.below (Nat.le_refl _) hb, h2.below (Nat.le_refl _) hb⟩
set_option maxHeartbeats 1000000 in
theorem rlives_r (lv : List Bool) (ids : List Int) (v : Value) (n : Int) (w : World) (h : RfW w lv ids v) :
    Calls Tryz.prog 16 #[v, .int .i64 n] w fun e w' => e = .returned (.bool (livesB lv n)) ∧ Below w.heap.size w w' := by
  obtain ⟨a, k, c, b, m, d, rfl, h1, h2⟩ := h.ex
  have hk : lv.length = k := h1.1
  have hmx := h1.2.1
  by_cases n0 : n < 0
  · have E : Hid (livesB lv n = false) := lives_neg n0
    go_enter Tryz.func16, Tryz.ntmps16
    go_wp2
    go_ret
    exact ⟨ret_b E.out.symm, below_one _ _⟩
  · by_cases nk : n < k
    · have hlt : n.toNat < k := by omega
      obtain ⟨g, o, rfl, hg, _, hc⟩ := (h1.below (Nat.le_refl _) (below_one w (.cells #[.slice a k c, .slice b m d] 31))).one (v := Value.bool) (fun _ => rfl) (i := n.toNat) hlt
      have E : Hid (livesB lv n = lv.getD n.toNat false) := lives_at (by omega)
      obtain ⟨j, hj⟩ : ∃ j : Nat, n = (j : Int) := ⟨n.toNat, by omega⟩
      subst hj
      simp only [Int.toNat_natCast] at hc E hlt
      generalize lv.getD j false = y at hc E
      clear h h1 h2
      go_enter Tryz.func16, Tryz.ntmps16
      go_wp2
      go_ret
      exact ⟨ret_b (by rw [E.out]), below_one _ _⟩
    · have E : Hid (livesB lv n = false) := lives_out (by omega)
      clear h h1 h2
      go_enter Tryz.func16, Tryz.ntmps16
      go_wp2
      go_ret
      exact ⟨ret_b E.out.symm, below_one _ _⟩
set_option maxHeartbeats 1000000 in
theorem rid_r (lv : List Bool) (ids : List Int) (v : Value) (n : Int) (w : World) (h : RfW w lv ids v) :
    Calls Tryz.prog 60 #[v, .int .i64 n] w fun e w' => e = .returned (.int .u64 (idI ids n)) ∧ Below w.heap.size w w' := by
  obtain ⟨a, k, c, b, m, d, rfl, h1, h2⟩ := h.ex
  have hk : ids.length = m := h2.1
  have hmx := h2.2.1
  by_cases n0 : n < 0
  · have E : Hid (idI ids n = 0) := id_neg n0
    go_enter Tryz.func60, Tryz.ntmps60
    go_wp2
    go_ret
    exact ⟨by rw [E.out]; rfl, below_one _ _⟩
  · by_cases nk : n < m
    · have hlt : n.toNat < m := by omega
      obtain ⟨g, o, rfl, hg, _, hc⟩ := (h2.below (Nat.le_refl _) (below_one w (.cells #[.slice a k c, .slice b m d] 31))).one (v := Value.int .u64) (fun _ => rfl) (i := n.toNat) hlt
      have E : Hid (idI ids n = ids.getD n.toNat 0) := id_at (by omega)
      obtain ⟨j, hj⟩ : ∃ j : Nat, n = (j : Int) := ⟨n.toNat, by omega⟩
      subst hj
      simp only [Int.toNat_natCast] at hc E hlt
      generalize ids.getD j 0 = y at hc E
      clear h h1 h2
      go_enter Tryz.func60, Tryz.ntmps60
      go_wp2
      go_ret
      exact ⟨by rw [E.out]; rfl, below_one _ _⟩
    · have E : Hid (idI ids n = 0) := id_out (by omega)
      clear h h1 h2
      go_enter Tryz.func60, Tryz.ntmps60
      go_wp2
      go_ret
      exact ⟨by rw [E.out]; rfl, below_one _ _⟩

set_option maxHeartbeats 2000000 in
theorem rhead_r (lv : List Bool) (ids : List Int) (v : Value) (id pred : Value) (a : Option Addr) (len cap : Nat) (l : List Int) (w : World) (h : RfW w lv ids v) (hl : InIn w a len l) :
    Calls Tryz.prog 58 #[.agg #[id, pred, .slice a len cap], v] w fun e w' => e = .returned (.int .i64 (headI lv l)) ∧ Below w.heap.size w w' := by
  have HL : Hid (InIn w a len l) := hl
  have HN : Hid (l.length = len) := hl.1
  have HW : Hid (RfW w lv ids v) := h
  have hm := hl.2.1
  obtain ⟨a9, n9, c9, b9, m9, d9, hv, _, _⟩ := h.ex
  subst hv
  clear hl h
  obtain ⟨W1, hW1⟩ : ∃ W1, W1 = (w.alloc (.cells #[id, pred, .slice a len cap] 69)).alloc (.cells #[.slice a9 n9 c9, .slice b9 m9 d9] 31) := ⟨_, rfl⟩
  have b1 : Below w.heap.size w W1 := by rw [hW1]; exact (below_one _ _).trans ((below_one _ _).mono (by simp))
  have e0 : W1.heap[w.heap.size]? = some (.cells #[id, pred, .slice a len cap] 69 (0, 0)) := by rw [hW1, Below.heap_alloc _ _ _ (by simp)]; exact heap_alloc_new w _
  have e1 : W1.heap[w.heap.size + 1]? = some (.cells #[.slice a9 n9 c9, .slice b9 m9 d9] 31 (0, 0)) := by rw [hW1]; simpa using heap_alloc_new (w.alloc (.cells #[id, pred, .slice a len cap] 69)) (.cells #[.slice a9 n9 c9, .slice b9 m9 d9] 31)
  have x2 : W1.cell? ⟨w.heap.size, 2, none⟩ = some (.slice a len cap) := by simp [World.cell?, e0]
  have y0 : W1.cell? ⟨w.heap.size + 1, 0, none⟩ = some (.slice a9 n9 c9) := by simp [World.cell?, e1]
  have y1 : W1.cell? ⟨w.heap.size + 1, 1, none⟩ = some (.slice b9 m9 d9) := by simp [World.cell?, e1]
  have xz := cell_block x2
  have H1 : Hid (Below w.heap.size w W1 ∧ W1.cell? ⟨w.heap.size + 1, 0, none⟩ = some (.slice a9 n9 c9) ∧ W1.cell? ⟨w.heap.size + 1, 1, none⟩ = some (.slice b9 m9 d9)) := ⟨b1, y0, y1⟩
  clear b1 e0 e1 y0 y1
  go_enter Tryz.func58, Tryz.ntmps58
  go_upto_region 1 with fail
  rw [← hW1]
  clear hW1
  go_wp2
  clear x2 xz
  go_loopg [10] len (fun kx s wr => ∃ k : Nat, s = .int .i64 k ∧ k ≤ len ∧ kx = len - k ∧ Hid (Below W1.heap.size W1 wr) ∧ Hid (headI lv (l.drop k) = headI lv l))
  case atStart => exact ⟨0, rfl, Nat.zero_le _, rfl, (Below.refl _ _ : Below W1.heap.size W1 W1), (rfl : headI lv (l.drop 0) = headI lv l)⟩
  case round =>
    obtain ⟨k, rfl, hk, rfl, HB, I⟩ := hrel
    have BB : Hid (Below w.heap.size w wr) := H1.out.1.trans (HB.out.mono H1.out.1.size)
    by_cases hlt : k < len
    · obtain ⟨b, o, rfl, hb, hx, hc⟩ := (HL.out.below (Nat.le_refl _) BB.out).one (v := Value.int .i64) (fun _ => rfl) (i := k) hlt
      have E : Hid (headI lv (l.drop k) = if livesB lv (l.getD k 0) then l.getD k 0 else headI lv (l.drop (k + 1))) := head_drop lv l k (by rw [HN.out]; exact hlt)
      have y0 := cell_grown H1.out.2.1 HB.out
      have y1 := cell_grown H1.out.2.2 HB.out
      have yz := cell_block y0
      generalize l.getD k 0 = x at hx hc E
      clear hx
      cases hq : livesB lv x
      all_goals
        have HQ : Hid _ := hq
        clear hq
        go_wp2_with (go_at_call 16; refine (rlives_r lv ids _ _ _ (HW.out.below BB.out)).mono ?_; rintro e w' ⟨rfl, hb'⟩; rw [HQ.out])
      · go_roundg (len - (k + 1))
        case measure => omega
        case rel => exact ⟨k + 1, by go_num, by omega, rfl, HB.out.trans (hb'.mono HB.out.size), by rw [← I.out, E.out, HQ.out]; rfl⟩
      · go_ret
        exact ⟨ret_i (by rw [← I.out, E.out, HQ.out]; rfl), BB.out.trans (hb'.mono BB.out.size)⟩
    · go_wp2
      go_ret
      exact ⟨ret_i (by rw [← I.out, List.drop_of_length_le (by rw [HN.out]; omega)]; rfl), BB.out⟩
end Go.Proofs.YtgiiadjocfnhlabGreatDoor

/- The document's answers of layer 1 (wigwagref01) are the same plain functions. -/
namespace Go.Proofs.YtgiiadjocfnhlabGreatDoor
open Go.ChangeShapes Go.WideShapes Go.ChangeAt Go.RowKit

theorem refdist_any (a b : Int) (w : World) (ha : 0 ≤ a ∧ a ≤ 18446744073709551615) (hb : 0 ≤ b ∧ b ≤ 18446744073709551615) :
    Calls Tryz.prog 102 #[.int .u64 a, .int .u64 b] w fun e w' => e = .returned (.int .u64 (dist a b)) ∧ w' = w := by
  obtain ⟨ha0, ha1⟩ := ha
  obtain ⟨hb0, hb1⟩ := hb
  by_cases h : a ≤ b
  · go_enter Tryz.func102, Tryz.ntmps102
    go_wp2
    go_ret
    refine ⟨ret_i ?_, rfl⟩
    unfold dist
    first | omega | (show (b - a) % 18446744073709551616 = _; omega)
  · go_enter Tryz.func102, Tryz.ntmps102
    go_wp2
    go_ret
    refine ⟨ret_i ?_, rfl⟩
    unfold dist
    omega

theorem refin_any (x a b : Int) (w : World) (hx : 0 ≤ x ∧ x ≤ 18446744073709551615) (ha : 0 ≤ a ∧ a ≤ 18446744073709551615) (hb : 0 ≤ b ∧ b ≤ 18446744073709551615) :
    Calls Tryz.prog 59 #[.int .u64 x, .int .u64 a, .int .u64 b] w fun e w' => e = .returned (.bool (inB x a b)) ∧ w' = w := by
  obtain ⟨hx0, hx1⟩ := hx
  obtain ⟨ha0, ha1⟩ := ha
  obtain ⟨hb0, hb1⟩ := hb
  by_cases h1 : (a == b) = true
  · go_enter Tryz.func59, Tryz.ntmps59
    go_wp2
    go_ret
    exact ⟨ret_b (by rw [inB, h1]; rfl), rfl⟩
  · have h1 : (a == b) = false := by simpa using h1
    have n1 : a ≠ b := beq_eq_false_iff_ne.1 h1
    have key : inB x a b = decide (if a < b then a < x ∧ x ≤ b else a < x ∨ x ≤ b) := by
      by_cases hxa : x = a
      · subst hxa
        have : inB x x b = false := by rw [inB, h1]; simp
        rw [this]; symm; rw [decide_eq_false_iff_not]; split <;> omega
      · rw [in_of x a b hxa n1, decide_eq_decide]; unfold dist; split <;> omega
    have key' : Hid (inB x a b = decide (if a < b then a < x ∧ x ≤ b else a < x ∨ x ≤ b)) := key
    clear key n1
    by_cases h2 : a < b
    · by_cases h3 : a < x
      · by_cases h4 : x ≤ b
        all_goals
          go_enter Tryz.func59, Tryz.ntmps59
          go_wp2
          go_ret
          exact ⟨ret_b (by rw [key'.out]; simp [h2, h3, h4]), rfl⟩
      · go_enter Tryz.func59, Tryz.ntmps59
        go_wp2
        go_ret
        exact ⟨ret_b (by rw [key'.out]; symm; rw [decide_eq_false_iff_not, if_pos h2]; omega), rfl⟩
    · by_cases h3 : a < x
      · go_enter Tryz.func59, Tryz.ntmps59
        go_wp2
        go_ret
        exact ⟨ret_b (by rw [key'.out]; simp [h2, h3]), rfl⟩
      · by_cases h4 : x ≤ b
        all_goals
          go_enter Tryz.func59, Tryz.ntmps59
          go_wp2
          go_ret
          exact ⟨ret_b (by rw [key'.out]; simp [h2, h3, h4]), rfl⟩

theorem refwithin_any (x a b : Int) (w : World) (hx : 0 ≤ x ∧ x ≤ 18446744073709551615) (ha : 0 ≤ a ∧ a ≤ 18446744073709551615) (hb : 0 ≤ b ∧ b ≤ 18446744073709551615) :
    Calls Tryz.prog 62 #[.int .u64 x, .int .u64 a, .int .u64 b] w fun e w' => e = .returned (.bool (withinB x a b)) ∧ w' = w := by
  obtain ⟨hx0, hx1⟩ := hx
  obtain ⟨ha0, ha1⟩ := ha
  obtain ⟨hb0, hb1⟩ := hb
  by_cases h1 : (a == b) = true
  · by_cases h2 : (x != a) = true
    · go_enter Tryz.func62, Tryz.ntmps62
      go_wp2
      go_ret
      exact ⟨ret_b (by rw [withinB, h1, h2]; rfl), rfl⟩
    · have h2 : (x != a) = false := by simpa using h2
      go_enter Tryz.func62, Tryz.ntmps62
      go_wp2
      go_ret
      exact ⟨ret_b (by rw [withinB, h1, h2]; rfl), rfl⟩
  · have h1 : (a == b) = false := by simpa using h1
    have n1 : a ≠ b := beq_eq_false_iff_ne.1 h1
    have key : withinB x a b = decide (if a < b then a < x ∧ x < b else a < x ∨ x < b) := by
      by_cases hxa : x = a
      · subst hxa
        have : withinB x x b = false := by rw [withinB]; simp
        rw [this]; symm; rw [decide_eq_false_iff_not]; split <;> omega
      · rw [within_of x a b hxa n1, decide_eq_decide]; unfold dist; split <;> omega
    have key' : Hid (withinB x a b = decide (if a < b then a < x ∧ x < b else a < x ∨ x < b)) := key
    clear key n1
    by_cases h2 : a < b
    · by_cases h3 : a < x
      · by_cases h4 : x < b
        all_goals
          go_enter Tryz.func62, Tryz.ntmps62
          go_wp2
          go_ret
          exact ⟨ret_b (by rw [key'.out]; simp [h2, h3, h4]), rfl⟩
      · go_enter Tryz.func62, Tryz.ntmps62
        go_wp2
        go_ret
        exact ⟨ret_b (by rw [key'.out]; symm; rw [decide_eq_false_iff_not, if_pos h2]; omega), rfl⟩
    · by_cases h3 : a < x
      · go_enter Tryz.func62, Tryz.ntmps62
        go_wp2
        go_ret
        exact ⟨ret_b (by rw [key'.out]; simp [h2, h3]), rfl⟩
      · by_cases h4 : x < b
        all_goals
          go_enter Tryz.func62, Tryz.ntmps62
          go_wp2
          go_ret
          exact ⟨ret_b (by rw [key'.out]; simp [h2, h3, h4]), rfl⟩

theorem refstart_any (x n : Int) (w : World) :
    Calls Tryz.prog 46 #[.int .u64 x, .int .i64 n] w fun e w' => e = .returned (.int .u64 (startN x n)) ∧ w' = w := by
  by_cases h0 : n < 0
  · go_enter Tryz.func46, Tryz.ntmps46
    go_wp2
    go_ret
    exact ⟨ret_i (start_out x n (Or.inl h0)).symm, rfl⟩
  · by_cases h1 : 63 < n
    · go_enter Tryz.func46, Tryz.ntmps46
      go_wp2
      go_ret
      exact ⟨ret_i (start_out x n (Or.inr h1)).symm, rfl⟩
    · obtain ⟨m, rfl⟩ := Int.eq_ofNat_of_zero_le (show 0 ≤ n by omega)
      have hm : m ≤ 63 := by omega
      clear h0 h1
      go_enter Tryz.func46, Tryz.ntmps46
      go_wp2
      go_loop [5, 6] (fun p i => ∃ k : Nat, k ≤ m ∧ i = .int .i64 k ∧ p = .int .u64 (2 ^ k)) (fun _ i => m - (intOf i).toNat)
      case atStart => exact ⟨0, Nat.zero_le _, rfl, rfl⟩
      case round =>
        obtain ⟨k, hk, rfl, rfl⟩ := hrel
        by_cases hlt : k < m
        · go_wp2
          go_round
          case rel =>
            refine ⟨k + 1, by omega, by go_num, ?_⟩
            have a := pow_lt_M (k + 1) (by omega)
            have b := pow_pos_k (k + 1)
            have c : IntKind.u64.wrap (2 * 2 ^ k) = 2 ^ (k + 1) := by
              show (2 * 2 ^ k) % 18446744073709551616 = (2 : Int) ^ (k + 1)
              rw [Int.pow_succ] at a b ⊢
              generalize (2 : Int) ^ k = y at *
              omega
            rw [c]
          case measure => simp [intOf]; omega
        · have e : k = m := by omega
          subst e
          go_wp2
          go_ret
          refine ⟨ret_i ?_, rfl⟩
          rw [start_in x k (by omega) (by omega)]
          rfl
end Go.Proofs.YtgiiadjocfnhlabGreatDoor

/- The document's answer for layer 9: Nearer, Follow. -/
namespace Go.Proofs.YtgiiadjocfnhlabGreatDoor
open Go.ChangeShapes Go.WideShapes Go.ChangeAt Go.RowKit Go.Deep
set_option linter.unusedVariables false

theorem RfW.u {w : World} {lv : List Bool} {ids : List Int} {v : Value} (h : RfW w lv ids v) (n : Int) : 0 ≤ idI ids n ∧ idI ids n ≤ 18446744073709551615 := by
  obtain ⟨a, k, c, b, m, d, _, _, h2⟩ := h.ex
  by_cases n0 : n < 0
  · rw [id_neg n0]; omega
  · by_cases nk : n < ids.length
    · rw [id_at (by omega)]
      obtain ⟨_, _, _, _, hu, _⟩ := h2.one (v := Value.int .u64) (fun _ => rfl) (i := n.toNat) (by rw [← h2.1]; omega)
      exact hu
    · rw [id_out (by omega)]; omega
def nearI (lv : List Bool) (ids : List Int) (q frm tgt : Int) : Bool := q != -1 && (livesB lv q && withinB (idI ids q) frm (idI ids tgt))
set_option maxRecDepth 100000 in
set_option maxHeartbeats 2000000 in
theorem rnearer_r (lv : List Bool) (ids : List Int) (v : Value) (q frm tgt : Int) (w : World) (h : RfW w lv ids v) (hf : 0 ≤ frm ∧ frm ≤ 18446744073709551615) :
    Calls Tryz.prog 61 #[.int .i64 q, .int .u64 frm, .int .i64 tgt, v] w fun e w' => e = .returned (.bool (nearI lv ids q frm tgt)) ∧ Below w.heap.size w w' := by
  have HW : Hid (RfW w lv ids v ∧ 0 ≤ frm ∧ frm ≤ 18446744073709551615) := ⟨h, hf⟩
  obtain ⟨a9, n9, c9, b9, m9, d9, hv, _, _⟩ := h.ex
  subst hv
  clear h hf
  obtain ⟨W1, hW1⟩ : ∃ W1, W1 = w.alloc (.cells #[.slice a9 n9 c9, .slice b9 m9 d9] 31) := ⟨_, rfl⟩
  have b1 : Hid (Below w.heap.size w W1) := by rw [hW1]; exact below_one _ _
  have y0 : W1.cell? ⟨w.heap.size, 0, none⟩ = some (.slice a9 n9 c9) := by rw [hW1]; simp
  have y1 : W1.cell? ⟨w.heap.size, 1, none⟩ = some (.slice b9 m9 d9) := by rw [hW1]; simp
  obtain ⟨ι, F, _, hF0, hFb, hFc⟩ := grown_fam W1
  have F0 : ∀ i, (F i).cell? ⟨w.heap.size, 0, none⟩ = some (.slice a9 n9 c9) := fun i => cell_grown y0 (hFb i)
  have F1 : ∀ i, (F i).cell? ⟨w.heap.size, 1, none⟩ = some (.slice b9 m9 d9) := fun i => cell_grown y1 (hFb i)
  have HF : Hid ((∃ i, { W1 with drawn := W1.drawn + 1 } = F i) ∧ (∀ i, Below W1.heap.size W1 (F i)) ∧ (∀ i W, Below W1.heap.size (F i) W → ∃ j, W = F j)) := ⟨hF0, hFb, hFc⟩
  have HR : Hid (∀ i, RfW (F i) lv ids (.agg #[.slice a9 n9 c9, .slice b9 m9 d9])) := fun i => (HW.out.1.below b1.out).below (hFb i)
  clear hF0 hFb hFc y0 y1
  by_cases hq : q = -1
  · have E : Hid (nearI lv ids q frm tgt = false) := by show nearI lv ids q frm tgt = false; simp [nearI, hq]
    subst hq
    go_enter Tryz.func61, Tryz.ntmps61
    go_upto_region 1 with fail
    rw [← hW1]
    clear hW1
    refine wp_region_fam F HF.out.1 (by kernel_rfl) (by kernel_rfl) ?_
    repeat (go_big_quiet_step (fail))
    refine wpQuiet_nil ?_
    rintro _ ⟨i, rfl⟩
    have BF := b1.out.trans ((HF.out.2.1 i).mono b1.out.size)
    clear F0 F1
    generalize F i = Wn at BF
    go_wp2
    go_ret
    exact ⟨ret_b E.out.symm, BF⟩
  · have hq' : (q != -1) = true := by simpa using hq
    cases hl : livesB lv q
    · have E : Hid (nearI lv ids q frm tgt = false) := by show nearI lv ids q frm tgt = false; simp [nearI, hl]
      have HQ : Hid _ := hl
      clear hl
      go_enter Tryz.func61, Tryz.ntmps61
      go_upto_region 1 with fail
      rw [← hW1]
      clear hW1
      refine wp_region_fam F HF.out.1 (by kernel_rfl) (by kernel_rfl) ?_
      repeat (go_big_quiet_step (first
        | (go_at_call 16; refine (rlives_r lv ids _ q _ (HR.out _)).mono ?_; rintro e' w' ⟨hs, hb⟩; exact ⟨by rw [hs, HQ.out], HF.out.2.2 _ _ (hb.mono (HF.out.2.1 _).size)⟩)))
      refine wpQuiet_nil ?_
      rintro _ ⟨i, rfl⟩
      have BF := b1.out.trans ((HF.out.2.1 i).mono b1.out.size)
      clear F0 F1
      generalize F i = Wn at BF
      go_wp2
      go_ret
      exact ⟨ret_b E.out.symm, BF⟩
    · have E : Hid (nearI lv ids q frm tgt = withinB (idI ids q) frm (idI ids tgt)) := by show nearI lv ids q frm tgt = _; simp [nearI, hl, hq']
      have HQ : Hid _ := hl
      clear hl
      have uq := HW.out.1.u q
      have ut := HW.out.1.u tgt
      have HU : Hid ((0 ≤ idI ids q ∧ idI ids q ≤ 18446744073709551615) ∧ (0 ≤ idI ids tgt ∧ idI ids tgt ≤ 18446744073709551615)) := ⟨uq, ut⟩
      clear uq ut
      obtain ⟨bb, hbb⟩ : ∃ bb, withinB (idI ids q) frm (idI ids tgt) = bb := ⟨_, rfl⟩
      have HBB : Hid _ := hbb
      clear hbb
      go_enter Tryz.func61, Tryz.ntmps61
      go_upto_region 1 with fail
      rw [← hW1]
      clear hW1
      refine wp_region_fam F HF.out.1 (by kernel_rfl) (by kernel_rfl) ?_
      repeat (go_big_quiet_step (first
        | (go_at_call 16; refine (rlives_r lv ids _ q _ (HR.out _)).mono ?_; rintro e' w' ⟨hs, hb⟩; exact ⟨by rw [hs, HQ.out], HF.out.2.2 _ _ (hb.mono (HF.out.2.1 _).size)⟩)
        | (go_at_call 62; refine (refwithin_any _ _ _ _ HU.out.1 HW.out.2 HU.out.2).mono ?_; rintro e' w' ⟨hs, hb⟩; exact ⟨by rw [hs, HBB.out], HF.out.2.2 _ _ (by rw [hb]; exact Below.refl _ _)⟩)
        | (go_at_call 60; refine (rid_r lv ids _ _ _ (HR.out _)).mono ?_; rintro e' w' ⟨hs, hb⟩; exact ⟨hs, HF.out.2.2 _ _ (hb.mono (HF.out.2.1 _).size)⟩)))
      refine wpQuiet_nil ?_
      rintro _ ⟨i, rfl⟩
      have BF := b1.out.trans ((HF.out.2.1 i).mono b1.out.size)
      clear F0 F1
      generalize F i = Wn at BF
      go_wp2
      go_ret
      exact ⟨ret_b (by rw [E.out, HBB.out]), BF⟩
end Go.Proofs.YtgiiadjocfnhlabGreatDoor

/- The document's answer for layer 9: Follow, Rectify. -/
namespace Go.Proofs.YtgiiadjocfnhlabGreatDoor
open Go.ChangeShapes Go.WideShapes Go.ChangeAt Go.RowKit Go.Deep
set_option linter.unusedVariables false

theorem take2_step {l : List Int} {k : Nat} (hk : k < l.length) : (l.take 2).take (k + 1) = if k < 2 then (l.take 2).take k ++ [l.getD k 0] else (l.take 2).take k := by
  have e : l.getD k 0 = l[k] := by simp [List.getD, hk]
  split
  · rename_i h
    have hk2 : k < (l.take 2).length := by simp; omega
    rw [List.take_succ_eq_append_getElem hk2, e]
    simp
  · rename_i h
    have h1 : (l.take 2).take (k + 1) = l.take 2 := List.take_of_length_le (by simp; omega)
    have h2 : (l.take 2).take k = l.take 2 := List.take_of_length_le (by simp; omega)
    rw [h1, h2]
set_option maxRecDepth 100000 in
set_option maxHeartbeats 2000000 in
theorem rfollow_r (s : Int) (id pred : Value) (a : Option Addr) (len cap : Nat) (l : List Int) (w : World) (hl : InIn w a len l) (hs : i64 s) (h3 : len ≤ 1000) :
    Calls Tryz.prog 83 #[.int .i64 s, .agg #[id, pred, .slice a len cap]] w fun e w' => ∃ a' c', e = .returned (.slice a' (1 + min len 2) c') ∧ InIn w' a' (1 + min len 2) (s :: l.take 2) ∧ 1 + min len 2 ≤ c' ∧ c' ≤ 9223372036854775807 ∧ (∀ x, a' = some x → w.heap.size ≤ x.block) ∧ Below w.heap.size w w' := by
  obtain ⟨i0, hif, hz0, hz1, hz2⟩ := info_of Tryz.infoInt
  have HL : Hid (InIn w a len l ∧ i64 s) := ⟨hl, hs⟩
  have HN : Hid (l.length = len) := hl.1
  clear hl hs
  obtain ⟨W1, hW1⟩ : ∃ W1, W1 = (w.alloc (.cells #[id, pred, .slice a len cap] 69)).alloc (.cells #[.int .i64 s] 3) := ⟨_, rfl⟩
  have b1 : Below w.heap.size w W1 := by rw [hW1]; exact (below_one _ _).trans ((below_one _ _).mono (by simp))
  have e0 : W1.heap[w.heap.size]? = some (.cells #[id, pred, .slice a len cap] 69 (0, 0)) := by rw [hW1, Below.heap_alloc _ _ _ (by simp)]; exact heap_alloc_new w _
  have e1 : W1.heap[w.heap.size + 1]? = some (.cells #[.int .i64 s] 3 (0, 0)) := by rw [hW1]; simpa using heap_alloc_new (w.alloc (.cells #[id, pred, .slice a len cap] 69)) (.cells #[.int .i64 s] 3)
  have x2 : W1.cell? ⟨w.heap.size, 2, none⟩ = some (.slice a len cap) := by simp [World.cell?, e0]
  have xz := cell_block x2
  have HO : Hid (W1.ownsRow w.heap.size 3 1 (.slice (some ⟨w.heap.size + 1, 0, none⟩) 1 1) 1 ((s :: (l.take 2).take 0).map cellI)) := ⟨rfl, .inr ⟨w.heap.size + 1, 1, _, rfl, Nat.le_succ _, e1, Nat.le_refl _, by decide, rfl, rfl⟩⟩
  have HB : Hid (Below w.heap.size w W1) := b1
  clear b1 e0 e1
  go_enter Tryz.func83, Tryz.ntmps83
  go_upto_region 2 with fail
  rw [← hW1]
  clear hW1
  go_wp2
  clear x2 xz
  go_loopg [13, 5] len (fun kx sv ov wr => ∃ (k m : Nat) (oa : Option Addr) (oc : Nat), sv = .int .i64 k ∧ k ≤ len ∧ kx = len - k ∧ m = 1 + min k (min len 2) ∧ ov = .slice oa m oc ∧ Hid (Below w.heap.size w wr) ∧ Hid (wr.ownsRow w.heap.size 3 1 (.slice oa m oc) m ((s :: (l.take 2).take k).map cellI)))
  case atStart => exact ⟨0, 1, _, _, rfl, Nat.zero_le _, rfl, by omega, rfl, HB, HO⟩
  case round =>
    obtain ⟨k, m, oa, oc, rfl, hk, rfl, hm, rfl, HB1, HO1⟩ := hrel
    clear HB HO
    by_cases hlt : k < len
    · obtain ⟨b, o, rfl, hb, hx, hc⟩ := (HL.out.1.below (Nat.le_refl _) HB1.out).one (v := Value.int .i64) (fun _ => rfl) (i := k) hlt
      have E : Hid ((l.take 2).take (k + 1) = if k < 2 then (l.take 2).take k ++ [l.getD k 0] else (l.take 2).take k) := take2_step (by rw [HN.out]; exact hlt)
      generalize l.getD k 0 = x at hx hc E
      by_cases h2 : k < 2
      · have hm3 : m < 3 := by omega
        have hm0 : m = 1 + k := by omega
        have HM : Hid (m = 1 + k ∧ k < 2) := ⟨hm0, h2⟩
        have HO2 : Hid ((wr.alloc (.cells #[.int .i64 x] 3)).ownsRow w.heap.size 3 1 (.slice oa m oc) m ((s :: (l.take 2).take k).map cellI)) := HO1.out.alloc (.cells #[.int .i64 x] 3)
        have HS : Hid (Src Tryz.prog 1 24 (.slice (some ⟨wr.heap.size, 0, none⟩) 1 1) 1 [cellI x] (wr.alloc (.cells #[.int .i64 x] 3))) := Src.ofSlice _ Tryz.underlying24 _ _ _ _ rfl (World.news_of_block (cs := #[.int .i64 x]) (t := 3) (fr := (0, 0)) (heap_alloc_new wr _)) (by simp [cellI, Value.oneCell'])
        have hwz := HB1.out.size
        clear hm hm0 h2
        go_wp2_with (at_builtin; refine wpList_own_append _ rfl _ _ 24 24 rfl w.heap.size 3 i0 _ 8 Tryz.underlying24 hif hz0 hz1 hz2 rfl _ _ _ rfl HO2.out _ 1 [cellI x] rfl HS.out ?c3 ?c4 ?c5 ?_)
        case c3 => unfold maxLen; omega
        case c4 => omega
        case c5 => simp; omega
        intro v' w3 ha
        obtain ⟨na, nc, hv'⟩ := ha.shape
        subst hv'
        have HA : Hid _ := ha
        clear ha
        go_wp2
        go_roundg (len - (k + 1))
        case measure => omega
        case rel =>
          refine ⟨k + 1, m + 1, na, nc, by go_num, by omega, rfl, by have := HM.out; omega, rfl, ?_, ?_⟩
          · have hg := HA.out.grown
            have b3 : Below w.heap.size w (wr.alloc (.cells #[.int .i64 x] 3)) := HB1.out.trans ((below_one _ _).mono HB1.out.size)
            exact b3.trans ⟨hg.os, hg.tape, hg.output, hg.size, fun b hb1 => hg.block b (by have := b3.size; omega) (fun e => by have := (World.ownsRow.lt HO2.out b e.symm).1; omega)⟩
          · have hr := HA.out.row
            rw [E.out, if_pos HM.out.2]
            refine (show w3.ownsRow w.heap.size 3 1 (.slice na (m + 1) nc) (m + 1) ((s :: ((l.take 2).take k ++ [x])).map cellI) from ?_)
            simpa using hr
      · have hm3 : ¬ m < 3 := by omega
        have HM : Hid (m = 1 + min (k + 1) (min len 2) ∧ ¬ k < 2) := ⟨by omega, h2⟩
        clear hm h2
        go_wp2
        go_roundg (len - (k + 1))
        case measure => omega
        case rel => exact ⟨k + 1, m, oa, oc, by go_num, by omega, rfl, HM.out.1, rfl, HB1, by rw [E.out, if_neg HM.out.2]; exact HO1.out⟩
    · obtain rfl : k = len := by omega
      have hm2 : m = 1 + min k 2 := by omega
      subst hm2
      go_wp2
      go_ret
      have hr := HO1.out
      rw [List.take_of_length_le (by simp; have := HN.out; omega)] at hr
      have hcp := own_caps hr
      refine ⟨oa, oc, rfl, in_of_own hr (fun x hx => ?_) (by omega), hcp.1, hcp.2, own_new hr, HB1.out⟩
      rcases List.mem_cons.1 hx with e | e
      · rw [e]; exact HL.out.2
      · exact ints_ok HL.out.1 x (List.mem_of_mem_take e)
end Go.Proofs.YtgiiadjocfnhlabGreatDoor

/- The document's answer for layer 9: Rectify. -/
namespace Go.Proofs.YtgiiadjocfnhlabGreatDoor
open Go.ChangeShapes Go.WideShapes Go.ChangeAt Go.RowKit Go.Deep
set_option linter.unusedVariables false

def rectR (lv : List Bool) (ids : List Int) (id pred n : Int) : Int := if pred == -1 || (!livesB lv pred || withinB (idI ids n) (idI ids pred) id) then n else pred
set_option maxRecDepth 100000 in
set_option maxHeartbeats 4000000 in
theorem rrect_r (lv : List Bool) (ids : List Int) (v : Value) (id pred n : Int) (a : Option Addr) (len cap : Nat) (w : World) (h : RfW w lv ids v) (hf : 0 ≤ id ∧ id ≤ 18446744073709551615) :
    Calls Tryz.prog 84 #[.agg #[.int .u64 id, .int .i64 pred, .slice a len cap], .int .i64 n, v] w fun e w' => e = .returned (.agg #[.int .u64 id, .int .i64 (rectR lv ids id pred n), .slice a len cap]) ∧ Below w.heap.size w w' := by
  have HW : Hid (RfW w lv ids v ∧ 0 ≤ id ∧ id ≤ 18446744073709551615) := ⟨h, hf⟩
  obtain ⟨a9, n9, c9, b9, m9, d9, hv, _, _⟩ := h.ex
  subst hv
  clear h hf
  obtain ⟨W1, hW1⟩ : ∃ W1, W1 = ((w.alloc (.cells #[.int .u64 id, .int .i64 pred, .slice a len cap] 69)).alloc (.cells #[.slice a9 n9 c9, .slice b9 m9 d9] 31)).alloc (.cells #[.int .u64 0, .int .i64 0, .slice none 0 0] 69) := ⟨_, rfl⟩
  have b1 : Hid (Below w.heap.size w W1) := by rw [hW1]; exact ((below_one _ _).trans ((below_one _ _).mono (by simp))).trans ((below_one _ _).mono (by simp; omega))
  have e0 : W1.heap[w.heap.size]? = some (.cells #[.int .u64 id, .int .i64 pred, .slice a len cap] 69 (0, 0)) := by
    rw [hW1, Below.heap_alloc _ _ _ (by simp; omega), Below.heap_alloc _ _ _ (by simp)]; exact heap_alloc_new w _
  have e1 : W1.heap[w.heap.size + 1]? = some (.cells #[.slice a9 n9 c9, .slice b9 m9 d9] 31 (0, 0)) := by
    rw [hW1, Below.heap_alloc _ _ _ (by simp)]; simpa using heap_alloc_new (w.alloc (.cells #[.int .u64 id, .int .i64 pred, .slice a len cap] 69)) (.cells #[.slice a9 n9 c9, .slice b9 m9 d9] 31)
  have e2 : W1.heap[w.heap.size + 2]? = some (.cells #[.int .u64 0, .int .i64 0, .slice none 0 0] 69 (0, 0)) := by
    rw [hW1]; simpa using heap_alloc_new ((w.alloc (.cells #[.int .u64 id, .int .i64 pred, .slice a len cap] 69)).alloc (.cells #[.slice a9 n9 c9, .slice b9 m9 d9] 31)) (.cells #[.int .u64 0, .int .i64 0, .slice none 0 0] 69)
  have hs1 : W1.heap.size = w.heap.size + 3 := by rw [hW1]; simp
  obtain ⟨ι, F, _, hF0, hFb, hFc⟩ := grown_fam W1
  have f0 : ∀ i, (F i).heap[w.heap.size]? = some (.cells #[.int .u64 id, .int .i64 pred, .slice a len cap] 69 (0, 0)) := fun i => ((hFb i).block _ (by omega)).trans e0
  have f1 : ∀ i, (F i).heap[w.heap.size + 1]? = some (.cells #[.slice a9 n9 c9, .slice b9 m9 d9] 31 (0, 0)) := fun i => ((hFb i).block _ (by omega)).trans e1
  have f2 : Hid (∀ i, (F i).heap[w.heap.size + 2]? = some (.cells #[.int .u64 0, .int .i64 0, .slice none 0 0] 69 (0, 0)) ∧ (F i).heap[w.heap.size]? = some (.cells #[.int .u64 id, .int .i64 pred, .slice a len cap] 69 (0, 0))) := fun i => ⟨((hFb i).block _ (by omega)).trans e2, f0 i⟩
  have A0 : ∀ i, (F i).cell? ⟨w.heap.size, 0, none⟩ = some (.int .u64 id) := fun i => by simp [World.cell?, f0 i]
  have A1 : ∀ i, (F i).cell? ⟨w.heap.size, 1, none⟩ = some (.int .i64 pred) := fun i => by simp [World.cell?, f0 i]
  have B0 : ∀ i, (F i).cell? ⟨w.heap.size + 1, 0, none⟩ = some (.slice a9 n9 c9) := fun i => by simp [World.cell?, f1 i]
  have B1 : ∀ i, (F i).cell? ⟨w.heap.size + 1, 1, none⟩ = some (.slice b9 m9 d9) := fun i => by simp [World.cell?, f1 i]
  have HF : Hid ((∃ i, { W1 with drawn := W1.drawn + 1 } = F i) ∧ (∀ i, Below W1.heap.size W1 (F i)) ∧ (∀ i W, Below W1.heap.size (F i) W → ∃ j, W = F j)) := ⟨hF0, hFb, hFc⟩
  have HR : Hid (∀ i, RfW (F i) lv ids (.agg #[.slice a9 n9 c9, .slice b9 m9 d9])) := fun i => (HW.out.1.below b1.out).below (hFb i)
  have HU : Hid ((0 ≤ idI ids n ∧ idI ids n ≤ 18446744073709551615) ∧ (0 ≤ idI ids pred ∧ idI ids pred ≤ 18446744073709551615)) := ⟨HW.out.1.u n, HW.out.1.u pred⟩
  clear hF0 hFb hFc f0 f1 e0 e1 e2 hs1
  obtain ⟨bl, hbl⟩ : ∃ bl, livesB lv pred = bl := ⟨_, rfl⟩
  obtain ⟨bw, hbw⟩ : ∃ bw, withinB (idI ids n) (idI ids pred) id = bw := ⟨_, rfl⟩
  obtain ⟨bp, hbp⟩ : ∃ bp, (pred == -1) = bp := ⟨_, rfl⟩
  have HRES : Hid (rectR lv ids id pred n = if bp || (!bl || bw) then n else pred) := by show rectR lv ids id pred n = _; unfold rectR; rw [hbl, hbw, hbp]
  have HBL : Hid _ := hbl
  have HBW : Hid _ := hbw
  clear hbl hbw
  generalize hrr : rectR lv ids id pred n = rr at HRES ⊢
  clear hrr
  cases bp <;> cases bl <;> cases bw
  all_goals
    simp only [Bool.false_or, Bool.true_or, Bool.not_false, Bool.not_true, if_true, Bool.false_eq_true, if_false] at HRES
    have hrr := HRES.out
    subst rr
    go_enter Tryz.func84, Tryz.ntmps84
    go_upto_region 1 with fail
    rw [← hW1]
    clear hW1
    refine wp_region_fam F HF.out.1 (by kernel_rfl) (by kernel_rfl) ?_
    repeat (go_big_quiet_step (first
      | (go_at_call 16; refine (rlives_r lv ids _ pred _ (HR.out _)).mono ?_; rintro e' w' ⟨hs, hb⟩; exact ⟨by rw [hs, HBL.out], HF.out.2.2 _ _ (hb.mono (HF.out.2.1 _).size)⟩)
      | (go_at_call 62; refine (refwithin_any _ _ _ _ HU.out.1 HU.out.2 HW.out.2).mono ?_; rintro e' w' ⟨hs, hb⟩; exact ⟨by rw [hs, HBW.out], HF.out.2.2 _ _ (by rw [hb]; exact Below.refl _ _)⟩)
      | (go_at_call 60; refine (rid_r lv ids _ _ _ (HR.out _)).mono ?_; rintro e' w' ⟨hs, hb⟩; exact ⟨hs, HF.out.2.2 _ _ (hb.mono (HF.out.2.1 _).size)⟩)))
    refine wpQuiet_nil ?_
    rintro _ ⟨i, rfl⟩
    have BF : Hid (Below w.heap.size w (F i)) := b1.out.trans ((HF.out.2.1 i).mono b1.out.size)
    obtain ⟨g2, g0⟩ := f2.out i
    have x0 : (F i).cell? ⟨w.heap.size, 0, none⟩ = some (.int .u64 id) := A0 i
    have x1 : (F i).cell? ⟨w.heap.size, 1, none⟩ = some (.int .i64 pred) := A1 i
    have x2 : (F i).cell? ⟨w.heap.size, 2, none⟩ = some (.slice a len cap) := by simp [World.cell?, g0]
    have t0 : (F i).cell? ⟨w.heap.size + 2, 0, none⟩ = some (.int .u64 0) := by simp [World.cell?, g2]
    have t1 : (F i).cell? ⟨w.heap.size + 2, 1, none⟩ = some (.int .i64 0) := by simp [World.cell?, g2]
    have t2 : (F i).cell? ⟨w.heap.size + 2, 2, none⟩ = some (.slice none 0 0) := by simp [World.cell?, g2]
    have tf : ∀ o, (F i).frozen? ⟨w.heap.size + 2, o, none⟩ = false := fun o => by simp [World.frozen?, g2]
    have xz := cell_block x0
    have tz := cell_block t0
    clear A0 A1 B0 B1 g0 g2 HF HR f2
    generalize F i = Wn at *
    go_wp2
    refine bodyPost_ret (v := .agg #[.int .u64 id, .int .i64 _, .slice a len cap]) (by simp [results, Tryz.results84, go_sem, *]) rfl ⟨rfl, ?_⟩
    have hq : ∀ o : Nat, w.heap.size ≤ (⟨w.heap.size + 2, o, none⟩ : Addr).block := fun o => Nat.le_add_right _ _
    exact ((BF.out.setCell (hq 0) _).setCell (hq 1) _).setCell (hq 2) _
end Go.Proofs.YtgiiadjocfnhlabGreatDoor

/- The document's ring (wigwagref10) by value: four rows of 32; Live. -/
namespace Go.Proofs.YtgiiadjocfnhlabGreatDoor
open Go.ChangeShapes Go.WideShapes Go.ChangeAt Go.RowKit Go.Deep
set_option linter.unusedVariables false

/-- A member's three cells. -/
structure Pr3 where
  id : Int
  pred : Int
  a : Option Addr
  len : Nat
  cap : Nat
def pr30 : Pr3 := ⟨0, 0, none, 0, 0⟩
def Pr3.cells (p : Pr3) : List Value := [.int .u64 p.id, .int .i64 p.pred, .slice p.a p.len p.cap]
def Pr3.ok (p : Pr3) : Prop := u64 p.id ∧ i64 p.pred
def lvL (R : Rg) : List Bool := (List.range 32).map fun (k : Nat) => R.lives (k : Int)
def usL (R : Rg) : List Bool := (List.range 32).map fun (k : Nat) => (R.pl (k : Int)).isSome
def idL (R : Rg) : List Int := (List.range 32).map fun (k : Nat) => R.idOf (k : Int)
/-- What a member knows lies in its cells. -/
def PrOk (w : World) (p : Option Pe) (q : Pr3) : Prop := ∀ x, p = some x → q.id = x.id ∧ q.pred = x.pred ∧ PeIn w x.id x.pred q.a q.len q.cap x.succ
structure RfV (w : World) (R : Rg) (v : Value) : Prop where
  ex : ∃ ua uc la lc ia ic pa pc P, v = .agg #[.slice ua 32 uc, .slice la 32 lc, .slice ia 32 ic, .slice pa 32 pc] ∧ LvIn w ua 32 (usL R) ∧ LvIn w la 32 (lvL R) ∧ IdIn w ia 32 (idL R) ∧ InRow 3 Pr3.cells Pr3.ok pr30 w pa 32 P ∧ ∀ k : Nat, k < 32 → PrOk w (R.kn k) (P.getD k pr30)
theorem RfV.below {w w' : World} {R : Rg} {v : Value} (h : RfV w R v) (hb : Below w.heap.size w w') : RfV w' R v := by
  obtain ⟨ua, uc, la, lc, ia, ic, pa, pc, P, e, h1, h2, h3, h4, h5⟩ := h.ex
  exact ⟨ua, uc, la, lc, ia, ic, pa, pc, P, e, h1.below (Nat.le_refl _) hb, h2.below (Nat.le_refl _) hb, h3.below (Nat.le_refl _) hb, h4.below (Nat.le_refl _) hb, fun k hk x hx => ⟨(h5 k hk x hx).1, (h5 k hk x hx).2.1, (h5 k hk x hx).2.2.below (Nat.le_refl _) hb⟩⟩
theorem lvL_getD (R : Rg) {k : Nat} (hk : k < 32) : (lvL R).getD k false = R.lives k := by simp [lvL, List.getD, hk]
theorem usL_getD (R : Rg) {k : Nat} (hk : k < 32) : (usL R).getD k false = (R.pl k).isSome := by simp [usL, List.getD, hk]
theorem idL_getD (R : Rg) {k : Nat} (hk : k < 32) : (idL R).getD k 0 = R.idOf k := by simp [idL, List.getD, hk]
theorem livesB_R {R : Rg} (h : Inv R) (n : Int) : livesB (lvL R) n = R.lives n := by
  by_cases n0 : n < 0
  · rw [lives_neg n0]
    cases hl : R.lives n
    · rfl
    · have := h.rng n hl; omega
  · by_cases nk : n < 32
    · rw [lives_at (by omega), lvL_getD R (by omega)]
      congr 1; omega
    · rw [lives_out (by simp [lvL]; omega)]
      cases hl : R.lives n
      · rfl
      · have := h.rng n hl; omega
theorem idI_R {R : Rg} {n : Int} (h0 : 0 ≤ n) (h1 : n < 32) : idI (idL R) n = R.idOf n := by
  rw [id_at h0, idL_getD R (by omega)]
  congr 1; omega
theorem headI_R {R : Rg} (h : Inv R) (l : List Int) : headI (lvL R) l = headF R.lives l := by
  induction l with
  | nil => rfl
  | cons a l ih => simp only [headI, headF, livesB_R h, ih]

set_option maxRecDepth 100000 in
set_option maxHeartbeats 2000000 in
theorem rlive_r (R : Rg) (v : Value) (w : World) (h : RfV w R v) :
    Calls Tryz.prog 13 #[v] w fun e w' => ∃ a c, e = .returned (.slice a R.live.length c) ∧ InIn w' a R.live.length R.live ∧ (∀ x, a = some x → w.heap.size ≤ x.block) ∧ Below w.heap.size w w' := by
  obtain ⟨i0, hif, hz0, hz1, hz2⟩ := info_of Tryz.infoInt
  obtain ⟨ua, uc, la, lc, ia, ic, pa, pc, P, rfl, h1, h2, h3, h4, h5⟩ := h.ex
  have HL : Hid (LvIn w la 32 (lvL R)) := h2
  clear h h1 h2 h3 h4 h5
  obtain ⟨W1, hW1⟩ : ∃ W1, W1 = (w.alloc (.cells #[.slice ua 32 uc, .slice la 32 lc, .slice ia 32 ic, .slice pa 32 pc] 34)).alloc (.cells #[] 3) := ⟨_, rfl⟩
  have b1 : Below w.heap.size w W1 := by rw [hW1]; exact (below_one _ _).trans ((below_one _ _).mono (by simp))
  have e0 : W1.heap[w.heap.size]? = some (.cells #[.slice ua 32 uc, .slice la 32 lc, .slice ia 32 ic, .slice pa 32 pc] 34 (0, 0)) := by rw [hW1, Below.heap_alloc _ _ _ (by simp)]; exact heap_alloc_new w _
  have e1 : W1.heap[w.heap.size + 1]? = some (.cells #[] 3 (0, 0)) := by rw [hW1]; simpa using heap_alloc_new (w.alloc (.cells #[.slice ua 32 uc, .slice la 32 lc, .slice ia 32 ic, .slice pa 32 pc] 34)) (.cells #[] 3)
  have x1 : W1.cell? ⟨w.heap.size, 1, none⟩ = some (.slice la 32 lc) := by simp [World.cell?, e0]
  have xz := cell_block x1
  have HX : Hid (W1.cell? ⟨w.heap.size, 1, none⟩ = some (.slice la 32 lc)) := x1
  have HO : Hid (W1.ownsRow (w.heap.size + 1) 3 1 (.slice (some ⟨w.heap.size + 1, 0, none⟩) 0 0) (R.liveTo 0).length ((R.liveTo 0).map cellI)) := ⟨rfl, .inr ⟨w.heap.size + 1, 0, _, rfl, Nat.le_refl _, e1, Nat.le_refl _, by decide, rfl, rfl⟩⟩
  have HB : Hid (Below w.heap.size w W1) := b1
  have hs1 : Hid (W1.heap.size = w.heap.size + 2) := by show W1.heap.size = w.heap.size + 2; rw [hW1]; simp
  clear b1 e0 e1
  go_enter Tryz.func13, Tryz.ntmps13
  go_upto_region 2 with fail
  rw [← hW1]
  clear hW1
  go_wp2
  clear x1 xz
  go_loopg [10, 3] 32 (fun kx s ov wr => ∃ k : Nat, s = .int .i64 k ∧ k ≤ 32 ∧ kx = 32 - k ∧ Hid (Below (w.heap.size + 1) W1 wr) ∧ Hid (wr.ownsRow (w.heap.size + 1) 3 1 ov (R.liveTo k).length ((R.liveTo k).map cellI)))
  case atStart => exact ⟨0, rfl, Nat.zero_le _, rfl, (Below.refl _ _ : Below (w.heap.size + 1) W1 W1), HO⟩
  case round =>
    obtain ⟨k, rfl, hk, rfl, HB1, HO1⟩ := hrel
    clear HO
    have hll : (R.liveTo k).length ≤ k := liveTo_len R k
    have hsz := HB1.out.size
    have hs1' := hs1.out
    have BB : Hid (Below w.heap.size w wr) := HB.out.trans (HB1.out.mono (Nat.le_succ _))
    by_cases hlt : k < 32
    · obtain ⟨b, o, rfl, hb, _, hc⟩ := (HL.out.below (Nat.le_refl _) BB.out).one (v := Value.bool) (fun _ => rfl) (i := k) hlt
      rw [lvL_getD R hlt] at hc
      have x1 : wr.cell? ⟨w.heap.size, 1, none⟩ = some (.slice (some ⟨b, o, none⟩) 32 lc) := by rw [← HX.out]; exact World.cell?_of_block (HB1.out.block w.heap.size (Nat.lt_succ_self _))
      have xz := cell_block x1
      have hwz : Hid (w.heap.size + 1 ≤ wr.heap.size) := by show w.heap.size + 1 ≤ wr.heap.size; omega
      clear hs1' hsz
      cases hq : R.lives k
      · rw [hq] at hc
        have E : Hid (R.liveTo (k + 1) = R.liveTo k) := by show R.liveTo (k + 1) = _; simp [Rg.liveTo, hq]
        clear hq
        go_wp2
        go_roundg (32 - (k + 1))
        case measure => omega
        case rel => exact ⟨k + 1, by go_num, by omega, rfl, HB1, by rw [E.out]; exact HO1.out⟩
      · rw [hq] at hc
        have E : Hid (R.liveTo (k + 1) = R.liveTo k ++ [(k : Int)]) := by show R.liveTo (k + 1) = _; simp [Rg.liveTo, hq]
        clear hq
        have HO2 : Hid ((wr.alloc (.cells #[.int .i64 k] 3)).ownsRow (w.heap.size + 1) 3 1 u3 (R.liveTo k).length ((R.liveTo k).map cellI)) := HO1.out.alloc (.cells #[.int .i64 k] 3)
        have HS : Hid (Src Tryz.prog 1 24 (.slice (some ⟨wr.heap.size, 0, none⟩) 1 1) 1 [cellI k] (wr.alloc (.cells #[.int .i64 k] 3))) := Src.ofSlice _ Tryz.underlying24 _ _ _ _ rfl (World.news_of_block (cs := #[.int .i64 k]) (t := 3) (fr := (0, 0)) (heap_alloc_new wr _)) (by simp [cellI, Value.oneCell'])
        go_wp2_with (at_builtin; refine wpList_own_append _ rfl _ _ 24 24 rfl (w.heap.size + 1) 3 i0 _ 8 Tryz.underlying24 hif hz0 hz1 hz2 rfl _ _ _ rfl HO2.out _ 1 [cellI k] rfl HS.out ?c3 ?c4 ?c5 ?_)
        case c3 => unfold maxLen; omega
        case c4 => omega
        case c5 => have := hwz.out; simp; omega
        intro v' w3 ha
        have HA : Hid _ := ha
        clear ha
        go_wp2
        go_roundg (32 - (k + 1))
        case measure => omega
        case rel =>
          refine ⟨k + 1, by go_num, by omega, rfl, ?_, ?_⟩
          · have hg := HA.out.grown
            have b3 : Below (w.heap.size + 1) W1 (wr.alloc (.cells #[.int .i64 k] 3)) := HB1.out.trans ((below_one _ _).mono hwz.out)
            exact b3.trans ⟨hg.os, hg.tape, hg.output, hg.size, fun b hb1 => hg.block b (by have := hwz.out; simp; omega) (fun e => by have := (World.ownsRow.lt HO2.out b e.symm).1; omega)⟩
          · have hr := HA.out.row
            rw [E.out]
            refine (show w3.ownsRow (w.heap.size + 1) 3 1 v' (R.liveTo k ++ [(k : Int)]).length ((R.liveTo k ++ [(k : Int)]).map cellI) from ?_)
            simpa using hr
    · obtain rfl : k = 32 := by omega
      obtain ⟨a, c, hv⟩ : ∃ a c, u3 = .slice a (R.liveTo 32).length c := by
        rcases HO1.out.2 with ⟨h0, h1⟩ | ⟨g, cap, cur, hv, _⟩
        · exact ⟨none, 0, by rw [h0, h1]⟩
        · exact ⟨_, _, hv⟩
      subst hv
      go_wp2
      go_ret
      exact ⟨a, c, rfl, in_of_own HO1.out (live_i64 R 32 (by omega)) (by show (R.liveTo 32).length ≤ _; omega), fun x hx => Nat.le_trans (Nat.le_succ _) (own_new HO1.out x hx), BB.out⟩
end Go.Proofs.YtgiiadjocfnhlabGreatDoor

/- A slice of elements of three cells that the call itself made, appended to out of whatever source (a slice, a string): where what comes of it lies: in the row that was there, or in a new block. No program in sight. -/
namespace Go.Proofs.YtgiiadjocfnhlabGreatDoor
open Go.RowKit

section
variable {P : Program} (w : World)

/-- What an append to an own row leaves. -/
structure Appended3 (base : Nat) (e : TypeId) (w w' : World) (v v' : Value) (n : Nat) (xs : List Value) : Prop where
  row : w'.ownsRow base e 3 v' n xs
  grown : w.grownBy w' v.ownBlock
  new : ∀ k, v'.ownBlock = some k → v.ownBlock = some k ∨ w.heap.size ≤ k
  shape : ∃ a c, v' = .slice a n c

theorem own_append3 (base : Nat) (t tx ty e : TypeId) (i : TypeInfo) (z : Value) (bytes : Nat) (ht : P.underlying t = some (.slice e)) (hi : P.info? e = some i) (hz : i.zero = some z)
    (hsize : i.size = 3) (hby : i.bytes = bytes) (hzs : z.cells.size = 3)
    (v : Value) (n : Nat) (xs : List Value) (hown : w.ownsRow base e 3 v n xs) (x : Value) (m : Nat) (news : List Value) (hs : Src P 3 tx x m news w)
    (h63 : n + m ≤ maxLen) (hbytes : (n + m) * bytes ≤ 140737488355328) (hbase : base ≤ w.heap.size) :
    ∃ v' w', (Builtin.append_ #[t, tx] ty #[v, x]).run P w = .ok v' w' ∧ Appended3 base e w w' v v' (n + m) (xs ++ news) := by
  rw [← hsize] at hs
  subst hby
  have hsmall : n + m ≤ 9223372036854775807 := by simp only [maxLen] at h63; omega
  have hnl : news.length = m * 3 := by have := hs.newsLen; rw [hsize] at this; exact this
  have hxl : xs.length = n * 3 := hown.1
  have hlen : (xs ++ news).length = (n + m) * 3 := by rw [List.length_append, hxl, hnl]; omega
  have grown : ∀ (old : Nat), old < n + m →
      (w.drew.alloc (.cells ((xs ++ news).toArray ++ Builtin.zeroCells z.cells (grownCap w (n + m) old e - (n + m))) e)).ownsRow base e 3
        (.slice (some ⟨w.heap.size, 0, none⟩) (n + m) (grownCap w (n + m) old e)) (n + m) (xs ++ news) ∧
      ∀ row, w.grownBy (w.drew.alloc (.cells ((xs ++ news).toArray ++ Builtin.zeroCells z.cells (grownCap w (n + m) old e - (n + m))) e)) row := by
    intro old ho
    have hge := grownCap_ge w (n + m) old e
    have hcm : grownCap w (n + m) old e ≤ maxLen := grownCap_le_maxLen w (n + m) old e h63
    refine ⟨⟨hlen, .inr ⟨w.heap.size, _, _, rfl, hbase, heap_alloc_new w.drew _, hge, hcm, ?_, ?_⟩⟩, fun row => ⟨rfl, rfl, rfl, by simp, fun k hk _ => Below.heap_alloc w.drew _ k hk⟩⟩
    · simp only [Array.size_append, List.size_toArray, size_zeroCells, hzs, hlen]; omega
    · rw [Array.toList_append, List.toList_toArray, ← hlen]; exact List.take_left
  rcases hown.2 with ⟨rfl, rfl⟩ | ⟨g, cap, cur, rfl, hbg, hg, hnc, hcm, hcs, htake⟩
  · have hx : xs = [] := List.eq_nil_of_length_eq_zero (by omega)
    subst hx
    by_cases hm : m = 0
    · subst hm
      have hn : news = [] := List.eq_nil_of_length_eq_zero (by omega)
      subst hn
      exact ⟨.slice none 0 0, w, run_append_nothing w t tx ty e i ht hi none 0 0 (Nat.le_refl _) x hs, World.ownsRow_nil w base e 3, ⟨rfl, rfl, rfl, Nat.le_refl _, fun _ _ _ => rfl⟩, fun k hk => .inl hk, ⟨none, 0, rfl⟩⟩
    · have hr := run_append_grow_src (P := P) w t tx ty e i z ht hi hz none 0 0 [] (run_firstCells_none _ _ _ _ _) x m news hs (by omega) (by omega) (growslice_fits (by omega) hbytes)
      have hgr := grown 0 (by omega)
      exact ⟨_, _, hr, hgr.1, hgr.2 _, fun k hk => .inr (by simp [Value.ownBlock] at hk; omega), ⟨_, _, rfl⟩⟩
  · by_cases hroom : n + m ≤ cap
    · have hfit : n * i.size + news.length ≤ cur.size := by rw [hnl, hcs, hsize]; omega
      have hr := room_src (P := P) w t tx ty e i ht hi g n cap cur hg x m news hs hroom hfit
      refine ⟨_, _, hr, ⟨hlen, .inr ⟨g, cap, _, rfl, hbg, setRow_heap w g cur _ e _ hg, hroom, hcm, ?_, ?_⟩⟩, ⟨rfl, rfl, rfl, by simp, fun k _ hk => setRow_other w g k _ (fun e => hk (by simp [Value.ownBlock, e]))⟩, fun k hk => .inl hk, ⟨_, _, rfl⟩⟩
      · simp only [List.size_toArray, List.length_append, List.length_take, List.length_drop, Array.length_toList]
        omega
      · rw [hsize, htake, ← hlen]
        exact List.take_left
    · have holds : ∀ j u, xs[j]? = some u → w.cell? ((⟨g, 0, none⟩ : Addr).add j) = some u := hown.cells (g := g) rfl
      have hf := run_firstCells_some (P := P) w.drew i.size n ⟨g, 0, none⟩ n cap xs (by rw [hsize]; omega) (by simpa using holds)
      have hr := run_append_grow_src (P := P) w t tx ty e i z ht hi hz (some ⟨g, 0, none⟩) n cap xs hf x m news hs (by omega) (by omega) (growslice_fits (by omega) hbytes)
      have hgr := grown cap (by omega)
      exact ⟨_, _, hr, hgr.1, hgr.2 _, fun k hk => .inr (by simp [Value.ownBlock] at hk; omega), ⟨_, _, rfl⟩⟩

theorem wpList_own_append3 {ops : Array Oper} {rest : List Oper} {o : Oper} {a : Act} {Q : Exit → Act → World → Prop} (hgd : o.guard = none) (s x : Operand) (t tx : TypeId)
    (ho : o.op = .call { callee := .builtin .append, args := #[s, x], argTypes := #[t, tx] })
    (base : Nat) (e : TypeId) (i : TypeInfo) (z : Value) (bytes : Nat) (ht : P.underlying t = some (.slice e)) (hi : P.info? e = some i) (hz : i.zero = some z)
    (hsize : i.size = 3) (hby : i.bytes = bytes) (hzs : z.cells.size = 3)
    (v : Value) (n : Nat) (xs : List Value) (hv : a.eval s = v) (hown : w.ownsRow base e 3 v n xs) (xv : Value) (m : Nat) (news : List Value) (hx : a.eval x = xv) (hs : Src P 3 tx xv m news w)
    (h63 : n + m ≤ maxLen) (hbytes : (n + m) * bytes ≤ 140737488355328) (hbase : base ≤ w.heap.size)
    (hK : ∀ v' w', Appended3 base e w w' v v' (n + m) (xs ++ news) → wpList P ops Q rest (a.put o.dst v') w') : wpList P ops Q (o :: rest) a w := by
  refine wpList_plain hgd fun K hK' => ?_
  obtain ⟨v', w', hrun, r'⟩ := own_append3 (P := P) w base t tx o.type e i z bytes ht hi hz hsize hby hzs v n xs hown xv m news hs h63 hbytes hbase
  unfold Oper.wp
  simp [execOp, ho, resolve, invoke, builtin, hv, hx, hrun, Result.andThen]
  exact hK' _ _ (hK v' w' r')

end
end Go.Proofs.YtgiiadjocfnhlabGreatDoor

/- The document's ring in rows of its own: Copy. -/
namespace Go.Proofs.YtgiiadjocfnhlabGreatDoor
open Go.ChangeShapes Go.WideShapes Go.ChangeAt Go.RowKit Go.Deep
set_option linter.unusedVariables false

theorem bx_set {w : World} {p j : Nat} {cs : Array Value} {t : TypeId} (h : w.heap[p]? = some (.cells cs t (0, 0))) (v : Value) : (w.setCell ⟨p, j, none⟩ v).heap[p]? = some (.cells (cs.setIfInBounds j v) t (0, 0)) := heap_setCell_same w p j cs t v h
/-- A row that came in, as a source. -/
theorem src_row {α : Type} {k : Nat} {enc : α → List Value} {ok : α → Prop} {d : α} {w W : World} {a : Option Addr} {n c : Nat} {zs : List α} {T E : TypeId} (hT : Tryz.prog.underlying T = some (.slice E)) (hk : ∀ x, (enc x).length = k) (hk0 : 0 < k) (hone : ∀ x, ∀ u ∈ enc x, u.oneCell' = true)
    (h : InRow k enc ok d w a n zs) (hb : Below w.heap.size w W) (hn : 0 < n) : Src Tryz.prog k T (.slice a n c) n (zs.flatMap enc) W := by
  obtain ⟨b, o, rfl, hlt, hc⟩ := h.2.2.resolve_left (by omega)
  have hfl := flat_len enc k hk zs
  refine Src.ofSlice _ hT _ n c _ (by rw [hfl, h.1]) (fun j u hu => ?_) (fun u hu => ?_)
  · have hj : j < zs.length * k := by have := (List.getElem?_eq_some_iff.1 hu).1; rw [hfl] at this; exact this
    have h1 : j / k < n := by rw [← h.1]; exact Nat.div_lt_of_lt_mul (by rw [Nat.mul_comm]; exact hj)
    have h2 : j % k < k := Nat.mod_lt _ hk0
    have e := (hc (j / k) h1).2 (j % k) h2
    have e2 := flat_get enc k hk d zs (j / k) (j % k) (by rw [h.1]; exact h1) h2
    have ej : j / k * k + j % k = j := by rw [Nat.mul_comm]; exact Nat.div_add_mod j k
    rw [ej, hu] at e2
    rw [← e2] at e
    have eo : o + j / k * k + j % k = o + j := by omega
    rw [eo] at e
    rw [Addr.add_lit]
    exact (hb.cell (p := ⟨b, o + j, none⟩) hlt).trans e
  · obtain ⟨x, _, hx⟩ := List.mem_flatMap.1 hu
    exact hone x u hx
/-- What is appended to a row that is new and empty lies in a new place. -/
theorem own_new1 {X w' : World} {e : TypeId} {v' : Value} {n : Nat} {xs : List Value} (h : Appended X.heap.size e (X.alloc (.cells #[] e)) w' (.slice (some ⟨X.heap.size, 0, none⟩) 0 0) v' n xs) : w'.ownsRow X.heap.size e 1 v' n xs ∧ Below X.heap.size X w' := by
  have hg := h.grown
  refine ⟨h.row, hg.os, hg.tape, hg.output, by have := hg.size; simp at this; omega, fun k hk => (hg.block k (by simp; omega) (by simp [Value.ownBlock]; omega)).trans (Below.heap_alloc X _ k hk)⟩
theorem own_new3 {X w' : World} {e : TypeId} {v' : Value} {n : Nat} {xs : List Value} (h : Appended3 X.heap.size e (X.alloc (.cells #[] e)) w' (.slice (some ⟨X.heap.size, 0, none⟩) 0 0) v' n xs) : w'.ownsRow X.heap.size e 3 v' n xs ∧ Below X.heap.size X w' := by
  have hg := h.grown
  refine ⟨h.row, hg.os, hg.tape, hg.output, by have := hg.size; simp at this; omega, fun k hk => (hg.block k (by simp; omega) (by simp [Value.ownBlock]; omega)).trans (Below.heap_alloc X _ k hk)⟩
theorem own_nil1 (X : World) (e : TypeId) (k : Nat) : (X.alloc (.cells #[] e)).ownsRow X.heap.size e k (.slice (some ⟨X.heap.size, 0, none⟩) 0 0) 0 [] := ⟨by simp, .inr ⟨X.heap.size, 0, #[], rfl, Nat.le_refl _, heap_alloc_new X _, Nat.le_refl _, Nat.zero_le _, by simp, by simp⟩⟩
theorem own_sl {w : World} {B k n : Nat} {e : TypeId} {v : Value} {xs : List Value} (h : w.ownsRow B e k v n xs) (hn : 0 < n) : ∃ g c, v = .slice (some ⟨g, 0, none⟩) n c ∧ B ≤ g ∧ g < w.heap.size := by
  rcases h.2 with ⟨_, h0⟩ | ⟨g, cap, cur, hv, hb, hg, _⟩
  · omega
  · exact ⟨g, cap, hv, hb, lt_of_block hg⟩
theorem row_below {w w' : World} {B k n : Nat} {e : TypeId} {v : Value} {xs : List Value} (h : w.ownsRow B e k v n xs) (hb : Below w.heap.size w w') : w'.ownsRow B e k v n xs := by
  refine ⟨h.1, ?_⟩
  rcases h.2 with h0 | ⟨g, cap, cur, hv, hB, hg, r⟩
  · exact .inl h0
  · exact .inr ⟨g, cap, cur, hv, hB, (hb.block g (lt_of_block hg)).trans hg, r⟩
theorem row_low {w : World} {B B' k n : Nat} {e : TypeId} {v : Value} {xs : List Value} (h : w.ownsRow B e k v n xs) (hB : B' ≤ B) : w.ownsRow B' e k v n xs := by
  refine ⟨h.1, ?_⟩
  rcases h.2 with h0 | ⟨g, cap, cur, hv, hb, r⟩
  · exact .inl h0
  · exact .inr ⟨g, cap, cur, hv, by omega, r⟩
theorem row_kept {w w' : World} {B k n : Nat} {e : TypeId} {v : Value} {xs : List Value} (h : w.ownsRow B e k v n xs) (hb : ∀ g, v.ownBlock = some g → w'.heap[g]? = w.heap[g]?) : w'.ownsRow B e k v n xs := by
  refine ⟨h.1, ?_⟩
  rcases h.2 with h0 | ⟨g, cap, cur, hv, hB, hg, r⟩
  · exact .inl h0
  · exact .inr ⟨g, cap, cur, hv, hB, (hb g (by rw [hv]; rfl)).trans hg, r⟩

def bl (l : List Bool) : List Value := l.map Value.bool
def ul (l : List Int) : List Value := l.map (Value.int .u64)
def pl3 (l : List Pr3) : List Value := l.flatMap Pr3.cells
/-- The document's ring in rows that lie from block B on. -/
structure RfO (B : Nat) (w : World) (gu cu gl cl gi ci gp cp : Nat) (U L : List Bool) (I : List Int) (P : List Pr3) : Prop where
  u : w.ownsRow B 4 1 (.slice (some ⟨gu, 0, none⟩) 32 cu) 32 (bl U)
  l : w.ownsRow B 4 1 (.slice (some ⟨gl, 0, none⟩) 32 cl) 32 (bl L)
  i : w.ownsRow B 25 1 (.slice (some ⟨gi, 0, none⟩) 32 ci) 32 (ul I)
  p : w.ownsRow B 69 3 (.slice (some ⟨gp, 0, none⟩) 32 cp) 32 (pl3 P)
  ne : gu < gl ∧ gl < gi ∧ gi < gp
  ok : (∀ x ∈ I, u64 x) ∧ ∀ x ∈ P, x.ok
def rfv (gu cu gl cl gi ci gp cp : Nat) : Value := .agg #[.slice (some ⟨gu, 0, none⟩) 32 cu, .slice (some ⟨gl, 0, none⟩) 32 cl, .slice (some ⟨gi, 0, none⟩) 32 ci, .slice (some ⟨gp, 0, none⟩) 32 cp]
theorem RfO.kept {B : Nat} {w w' : World} {gu cu gl cl gi ci gp cp : Nat} {U L : List Bool} {I : List Int} {P : List Pr3} (h : RfO B w gu cu gl cl gi ci gp cp U L I P) (hk : ∀ g, gu ≤ g → w'.heap[g]? = w.heap[g]?) : RfO B w' gu cu gl cl gi ci gp cp U L I P := by
  have hn := h.ne
  refine ⟨row_kept h.u (fun g hg => ?_), row_kept h.l (fun g hg => ?_), row_kept h.i (fun g hg => ?_), row_kept h.p (fun g hg => ?_), h.ne, h.ok⟩ <;> (simp [Value.ownBlock] at hg; exact hk g (by omega))
theorem inrow_ok {α : Type} {k : Nat} {enc : α → List Value} {ok : α → Prop} {d : α} {w : World} {a : Option Addr} {n : Nat} {zs : List α} (h : InRow k enc ok d w a n zs) (hn : 0 < n) : ∀ x ∈ zs, ok x := by
  intro x hx
  obtain ⟨i, hi, rfl⟩ := List.getElem_of_mem hx
  obtain ⟨b, o, _, _, hc⟩ := h.2.2.resolve_left (by omega)
  have := (hc i (by rw [← h.1]; exact hi)).1
  simpa [List.getD, hi] using this
theorem Tryz.infoBo : (Tryz.prog.info? 4).map (fun i => (i.zero, i.size, i.bytes)) = some (some (.bool false), 1, 1) := by kernel_rfl
theorem Tryz.infoU8 : (Tryz.prog.info? 25).map (fun i => (i.zero, i.size, i.bytes)) = some (some (.int .u64 0), 1, 8) := by kernel_rfl
theorem Tryz.infoP3 : (Tryz.prog.info? 69).map (fun i => (i.zero, i.size, i.bytes)) = some (some (.agg #[.int .u64 0, .int .i64 0, .slice none 0 0]), 3, 40) := by kernel_rfl
theorem info_ofP {e : TypeId} {z : Value} {k b : Nat} (h : (Tryz.prog.info? e).map (fun i => (i.zero, i.size, i.bytes)) = some (some z, k, b)) : ∃ i, Tryz.prog.info? e = some i ∧ i.zero = some z ∧ i.size = k ∧ i.bytes = b := by
  cases hi : Tryz.prog.info? e with
  | none => rw [hi] at h; cases h
  | some i => rw [hi] at h; simp at h; exact ⟨i, rfl, h.1, h.2.1, h.2.2⟩
end Go.Proofs.YtgiiadjocfnhlabGreatDoor

/- wigwagref10.Copy. -/
namespace Go.Proofs.YtgiiadjocfnhlabGreatDoor
open Go.ChangeShapes Go.WideShapes Go.ChangeAt Go.RowKit Go.Deep
set_option linter.unusedVariables false

theorem bl_flat (l : List Bool) : l.flatMap encB = bl l := by
  induction l with
  | nil => rfl
  | cons a l ih => simp [encB, bl] at ih ⊢; exact ih
theorem ul_flat (l : List Int) : l.flatMap encU = ul l := by
  induction l with
  | nil => rfl
  | cons a l ih => simp [encU, ul] at ih ⊢; exact ih
theorem Pr3.len3 (p : Pr3) : p.cells.length = 3 := rfl
theorem fz_block {w : World} {b : Nat} {cs : Array Value} {t : TypeId} (h : w.heap[b]? = some (.cells cs t (0, 0))) (k : Nat) : w.frozen? ⟨b, k, none⟩ = false := by simp [World.frozen?, h]
theorem c4_block {w : World} {b : Nat} {a0 a1 a2 a3 : Value} {t : TypeId} (h : w.heap[b]? = some (.cells #[a0, a1, a2, a3] t (0, 0))) : w.cell? ⟨b, 0, none⟩ = some a0 ∧ w.cell? ⟨b, 1, none⟩ = some a1 ∧ w.cell? ⟨b, 2, none⟩ = some a2 ∧ w.cell? ⟨b, 3, none⟩ = some a3 ∧ b < w.heap.size :=
  ⟨by simp [World.cell?, h], by simp [World.cell?, h], by simp [World.cell?, h], by simp [World.cell?, h], lt_of_block h⟩
theorem below_alloc {w X : World} {B : Nat} (h : Below B w X) (hB : B ≤ X.heap.size) (o : Obj) : Below B w (X.alloc o) := h.trans ((below_one X o).mono hB)

set_option maxRecDepth 100000 in
set_option maxHeartbeats 4000000 in
theorem rcopy_r (ua la ia pa : Option Addr) (uc lc ic pc : Nat) (U L : List Bool) (I : List Int) (P : List Pr3) (w : World) (h1 : LvIn w ua 32 U) (h2 : LvIn w la 32 L) (h3 : IdIn w ia 32 I) (h4 : InRow 3 Pr3.cells Pr3.ok pr30 w pa 32 P) :
    Calls Tryz.prog 82 #[.agg #[.slice ua 32 uc, .slice la 32 lc, .slice ia 32 ic, .slice pa 32 pc]] w fun e w' => ∃ gu cu gl cl gi ci gp cp, e = .returned (rfv gu cu gl cl gi ci gp cp) ∧ RfO w.heap.size w' gu cu gl cl gi ci gp cp U L I P ∧ Below w.heap.size w w' := by
  have HIN : Hid (LvIn w ua 32 U ∧ LvIn w la 32 L ∧ IdIn w ia 32 I ∧ InRow 3 Pr3.cells Pr3.ok pr30 w pa 32 P) := ⟨h1, h2, h3, h4⟩
  clear h1 h2 h3 h4
  obtain ⟨iB0, iBa, iBb, iBc, iBd⟩ := info_ofP Tryz.infoBo
  obtain ⟨iU0, iUa, iUb, iUc, iUd⟩ := info_ofP Tryz.infoU8
  obtain ⟨iP0, iPa, iPb, iPc, iPd⟩ := info_ofP Tryz.infoP3
  obtain ⟨X1, hX1⟩ : ∃ X1, X1 = (w.alloc (.cells #[.slice ua 32 uc, .slice la 32 lc, .slice ia 32 ic, .slice pa 32 pc] 34)).alloc (.cells #[.slice none 0 0, .slice none 0 0, .slice none 0 0, .slice none 0 0] 34) := ⟨_, rfl⟩
  have b1 : Below w.heap.size w X1 := by rw [hX1]; exact (below_one _ _).trans ((below_one _ _).mono (by simp))
  have e0 : X1.heap[w.heap.size]? = some (.cells #[.slice ua 32 uc, .slice la 32 lc, .slice ia 32 ic, .slice pa 32 pc] 34 (0, 0)) := by rw [hX1, Below.heap_alloc _ _ _ (by simp)]; exact heap_alloc_new w _
  have e1 : X1.heap[w.heap.size + 1]? = some (.cells #[.slice none 0 0, .slice none 0 0, .slice none 0 0, .slice none 0 0] 34 (0, 0)) := by rw [hX1]; simpa using heap_alloc_new (w.alloc (.cells #[.slice ua 32 uc, .slice la 32 lc, .slice ia 32 ic, .slice pa 32 pc] 34)) (.cells #[.slice none 0 0, .slice none 0 0, .slice none 0 0, .slice none 0 0] 34)
  have H1 : Hid (Below w.heap.size w X1 ∧ X1.heap[w.heap.size]? = some (.cells #[.slice ua 32 uc, .slice la 32 lc, .slice ia 32 ic, .slice pa 32 pc] 34 (0, 0)) ∧ X1.heap[w.heap.size + 1]? = some (.cells #[.slice none 0 0, .slice none 0 0, .slice none 0 0, .slice none 0 0] 34 (0, 0))) := ⟨b1, e0, e1⟩
  obtain ⟨r0, r1, r2, r3, rl⟩ := c4_block e0
  clear b1 e0 e1
  have HS1 : Hid (Src Tryz.prog 1 28 (.slice ua 32 uc) 32 (U.flatMap encB) (X1.alloc (.cells #[] 4))) := src_row Tryz.underlying28 lenB (by omega) (fun x u hu => by simp [encB] at hu; subst hu; rfl) HIN.out.1 (below_alloc H1.out.1 H1.out.1.size _) (by omega)
  go_enter Tryz.func82, Tryz.ntmps82
  go_upto_region 1 with fail
  rw [← hX1]
  clear hX1
  go_wp2_with (at_builtin; refine wpList_own_append _ rfl _ _ 28 28 rfl X1.heap.size 4 iB0 _ 1 Tryz.underlying28 iBa iBb iBc iBd rfl _ 0 [] rfl (own_nil1 X1 _ 1) _ 32 _ rfl HS1.out ?c3 ?c4 ?c5 ?_)
  case c3 => unfold maxLen; omega
  case c4 => omega
  case c5 => simp
  intro vU wA ha
  obtain ⟨hrU, hbA⟩ := own_new1 (n := 32) (xs := U.flatMap encB) (by simpa using ha)
  obtain ⟨gu, cu, hvU, hgu, hgu'⟩ := own_sl hrU (by omega)
  subst hvU
  obtain ⟨X2, hX2⟩ : ∃ X2, X2 = wA.alloc (.cells #[.slice (some ⟨gu, 0, none⟩) 32 cu, .slice none 0 0, .slice none 0 0, .slice none 0 0] 34) := ⟨_, rfl⟩
  have hX2b : Below X1.heap.size X1 X2 := by rw [hX2]; exact below_alloc hbA hbA.size _
  have H2 : Hid (Below w.heap.size w X2 ∧ X2.heap[w.heap.size]? = some (.cells #[.slice ua 32 uc, .slice la 32 lc, .slice ia 32 ic, .slice pa 32 pc] 34 (0, 0)) ∧ X2.heap[w.heap.size + 1]? = some (.cells #[.slice none 0 0, .slice none 0 0, .slice none 0 0, .slice none 0 0] 34 (0, 0)) ∧ X2.heap[wA.heap.size]? = some (.cells #[.slice (some ⟨gu, 0, none⟩) 32 cu, .slice none 0 0, .slice none 0 0, .slice none 0 0] 34 (0, 0)) ∧ X2.ownsRow w.heap.size 4 1 (.slice (some ⟨gu, 0, none⟩) 32 cu) 32 (bl U) ∧ X1.heap.size ≤ gu ∧ gu < wA.heap.size ∧ w.heap.size + 1 < X1.heap.size) := by
    refine ⟨H1.out.1.trans (hX2b.mono H1.out.1.size), (hX2b.block _ rl).trans H1.out.2.1, (hX2b.block _ (lt_of_block H1.out.2.2)).trans H1.out.2.2, by rw [hX2]; exact heap_alloc_new wA _, ?_, hgu, hgu', lt_of_block H1.out.2.2⟩
    rw [hX2, ← bl_flat]
    exact row_low (row_below hrU (below_one _ _)) H1.out.1.size
  clear ha hrU hbA hX2b hgu hgu' r0 r1 r2 r3 rl HS1 H1
  obtain ⟨r0, r1, r2, r3, rl⟩ := c4_block H2.out.2.1
  have ol := lt_of_block H2.out.2.2.2.1
  have HS2 : Hid (Src Tryz.prog 1 28 (.slice la 32 lc) 32 (L.flatMap encB) (X2.alloc (.cells #[] 4))) := src_row Tryz.underlying28 lenB (by omega) (fun x u hu => by simp [encB] at hu; subst hu; rfl) HIN.out.2.1 (below_alloc H2.out.1 H2.out.1.size _) (by omega)
  go_upto_region 2 with fail
  rw [← hX2]
  clear hX2
  go_wp2_with (at_builtin; refine wpList_own_append _ rfl _ _ 28 28 rfl X2.heap.size 4 iB0 _ 1 Tryz.underlying28 iBa iBb iBc iBd rfl _ 0 [] rfl (own_nil1 X2 _ 1) _ 32 _ rfl HS2.out ?c3 ?c4 ?c5 ?_)
  case c3 => unfold maxLen; omega
  case c4 => omega
  case c5 => simp
  intro vL wB ha
  obtain ⟨hrL, hbB⟩ := own_new1 (n := 32) (xs := L.flatMap encB) (by simpa using ha)
  obtain ⟨gl, cl, hvL, hgl, hgl'⟩ := own_sl hrL (by omega)
  subst hvL
  have hoB : wB.heap[wA.heap.size]? = some (.cells #[.slice (some ⟨gu, 0, none⟩) 32 cu, .slice none 0 0, .slice none 0 0, .slice none 0 0] 34 (0, 0)) := (hbB.block _ ol).trans H2.out.2.2.2.1
  have of1 := fz_block hoB 1
  obtain ⟨o0, o1, o2, o3, ol2⟩ := c4_block hoB
  obtain ⟨X3, hX3⟩ : ∃ X3, X3 = wB.setCell ⟨wA.heap.size, 1, none⟩ (.slice (some ⟨gl, 0, none⟩) 32 cl) := ⟨_, rfl⟩
  have hoth : ∀ k, k ≠ wA.heap.size → X3.heap[k]? = wB.heap[k]? := fun k hk => by rw [hX3]; exact Below.heap_setCell _ _ _ _ (by simpa using hk)
  have hsz3 : X3.heap.size = wB.heap.size := by rw [hX3]; simp [World.setCell]
  have H3 : Hid (Below w.heap.size w X3 ∧ X3.heap[w.heap.size]? = some (.cells #[.slice ua 32 uc, .slice la 32 lc, .slice ia 32 ic, .slice pa 32 pc] 34 (0, 0)) ∧ X3.heap[w.heap.size + 1]? = some (.cells #[.slice none 0 0, .slice none 0 0, .slice none 0 0, .slice none 0 0] 34 (0, 0)) ∧ X3.heap[wA.heap.size]? = some (.cells #[.slice (some ⟨gu, 0, none⟩) 32 cu, .slice (some ⟨gl, 0, none⟩) 32 cl, .slice none 0 0, .slice none 0 0] 34 (0, 0)) ∧ X3.ownsRow w.heap.size 4 1 (.slice (some ⟨gu, 0, none⟩) 32 cu) 32 (bl U) ∧ X3.ownsRow w.heap.size 4 1 (.slice (some ⟨gl, 0, none⟩) 32 cl) 32 (bl L) ∧ (gu < gl ∧ gl < X3.heap.size ∧ wA.heap.size < X3.heap.size) ∧ gu < wA.heap.size ∧ wA.heap.size < gl ∧ w.heap.size + 1 < gu) := by
    have q := H2.out
    have hs2 : wA.heap.size < X2.heap.size := ol
    refine ⟨?_, (hoth _ (by omega)).trans ((hbB.block _ rl).trans q.2.1), (hoth _ (by omega)).trans ((hbB.block _ (lt_of_block q.2.2.1)).trans q.2.2.1), ?_, ?_, ?_, ⟨by omega, by omega, by omega⟩, q.2.2.2.2.2.2.1, by omega, by omega⟩
    · have hb0 := q.1.trans (hbB.mono q.1.size)
      rw [hX3]; exact hb0.setCell (by have := q.2.2.2.2.2; show w.heap.size ≤ wA.heap.size; omega) _
    · rw [hX3]; simpa using bx_set (j := 1) hoB (.slice (some ⟨gl, 0, none⟩) 32 cl)
    · exact row_kept (row_below q.2.2.2.2.1 hbB) (fun g hg => by simp [Value.ownBlock] at hg; exact hoth g (by omega))
    · rw [← bl_flat]
      exact row_low (row_kept hrL (fun g hg => by simp [Value.ownBlock] at hg; exact hoth g (by omega))) q.1.size
  clear ha hrL hbB hgl hgl' r0 r1 r2 r3 rl HS2 H2 hoth hsz3 hoB ol
  obtain ⟨r0, r1, r2, r3, rl⟩ := c4_block H3.out.2.1
  have ol := lt_of_block H3.out.2.2.2.1
  have HS3 : Hid (Src Tryz.prog 1 29 (.slice ia 32 ic) 32 (I.flatMap encU) (X3.alloc (.cells #[] 25))) := src_row Tryz.underlying29 lenU (by omega) (fun x u hu => by simp [encU] at hu; subst hu; rfl) HIN.out.2.2.1 (below_alloc H3.out.1 H3.out.1.size _) (by omega)
  go_upto_region 3 with fail
  rw [← hX3]
  clear hX3 o0 o1 o2 o3 of1 ol2
  go_wp2_with (at_builtin; refine wpList_own_append _ rfl _ _ 29 29 rfl X3.heap.size 25 iU0 _ 8 Tryz.underlying29 iUa iUb iUc iUd rfl _ 0 [] rfl (own_nil1 X3 _ 1) _ 32 _ rfl HS3.out ?c3 ?c4 ?c5 ?_)
  case c3 => unfold maxLen; omega
  case c4 => omega
  case c5 => simp
  intro vI wC ha
  obtain ⟨hrI, hbC⟩ := own_new1 (n := 32) (xs := I.flatMap encU) (by simpa using ha)
  obtain ⟨gi, ci, hvI, hgi, hgi'⟩ := own_sl hrI (by omega)
  subst hvI
  have hoC : wC.heap[wA.heap.size]? = some (.cells #[.slice (some ⟨gu, 0, none⟩) 32 cu, .slice (some ⟨gl, 0, none⟩) 32 cl, .slice none 0 0, .slice none 0 0] 34 (0, 0)) := (hbC.block _ ol).trans H3.out.2.2.2.1
  have of2 := fz_block hoC 2
  obtain ⟨o0, o1, o2, o3, ol2⟩ := c4_block hoC
  obtain ⟨X4, hX4⟩ : ∃ X4, X4 = wC.setCell ⟨wA.heap.size, 2, none⟩ (.slice (some ⟨gi, 0, none⟩) 32 ci) := ⟨_, rfl⟩
  have hoth : ∀ k, k ≠ wA.heap.size → X4.heap[k]? = wC.heap[k]? := fun k hk => by rw [hX4]; exact Below.heap_setCell _ _ _ _ (by simpa using hk)
  have hsz4 : X4.heap.size = wC.heap.size := by rw [hX4]; simp [World.setCell]
  have H4 : Hid (Below w.heap.size w X4 ∧ X4.heap[w.heap.size]? = some (.cells #[.slice ua 32 uc, .slice la 32 lc, .slice ia 32 ic, .slice pa 32 pc] 34 (0, 0)) ∧ X4.heap[w.heap.size + 1]? = some (.cells #[.slice none 0 0, .slice none 0 0, .slice none 0 0, .slice none 0 0] 34 (0, 0)) ∧ X4.heap[wA.heap.size]? = some (.cells #[.slice (some ⟨gu, 0, none⟩) 32 cu, .slice (some ⟨gl, 0, none⟩) 32 cl, .slice (some ⟨gi, 0, none⟩) 32 ci, .slice none 0 0] 34 (0, 0)) ∧ X4.ownsRow w.heap.size 4 1 (.slice (some ⟨gu, 0, none⟩) 32 cu) 32 (bl U) ∧ X4.ownsRow w.heap.size 4 1 (.slice (some ⟨gl, 0, none⟩) 32 cl) 32 (bl L) ∧ X4.ownsRow w.heap.size 25 1 (.slice (some ⟨gi, 0, none⟩) 32 ci) 32 (ul I) ∧ (gu < gl ∧ gl < gi ∧ gi < X4.heap.size ∧ wA.heap.size < X4.heap.size) ∧ gu < wA.heap.size ∧ wA.heap.size < gl ∧ w.heap.size + 1 < gu) := by
    have q := H3.out
    have hs3 : wA.heap.size < X3.heap.size := ol
    refine ⟨?_, (hoth _ (by omega)).trans ((hbC.block _ rl).trans q.2.1), (hoth _ (by omega)).trans ((hbC.block _ (lt_of_block q.2.2.1)).trans q.2.2.1), ?_, ?_, ?_, ?_, ⟨by omega, by omega, by omega, by omega⟩, q.2.2.2.2.2.2.2.1, by omega, by omega⟩
    · have hb0 := q.1.trans (hbC.mono q.1.size)
      rw [hX4]; exact hb0.setCell (by have := q.2.2.2.2.2.2; show w.heap.size ≤ wA.heap.size; omega) _
    · rw [hX4]; simpa using bx_set (j := 2) hoC (.slice (some ⟨gi, 0, none⟩) 32 ci)
    · exact row_kept (row_below q.2.2.2.2.1 hbC) (fun g hg => by simp [Value.ownBlock] at hg; exact hoth g (by omega))
    · exact row_kept (row_below q.2.2.2.2.2.1 hbC) (fun g hg => by simp [Value.ownBlock] at hg; exact hoth g (by omega))
    · rw [← ul_flat]
      exact row_low (row_kept hrI (fun g hg => by simp [Value.ownBlock] at hg; exact hoth g (by omega))) q.1.size
  clear ha hrI hbC hgi hgi' r0 r1 r2 r3 rl HS3 H3 hoth hsz4 hoC ol
  obtain ⟨r0, r1, r2, r3, rl⟩ := c4_block H4.out.2.1
  have ol := lt_of_block H4.out.2.2.2.1
  have HS4 : Hid (Src Tryz.prog 3 32 (.slice pa 32 pc) 32 (P.flatMap Pr3.cells) (X4.alloc (.cells #[] 69))) := src_row Tryz.underlying32 Pr3.len3 (by omega) (fun x u hu => by simp [Pr3.cells] at hu; rcases hu with rfl | rfl | rfl <;> rfl) HIN.out.2.2.2 (below_alloc H4.out.1 H4.out.1.size _) (by omega)
  go_upto_region 4 with fail
  rw [← hX4]
  clear hX4 o0 o1 o2 o3 of2 ol2
  go_wp2_with (at_builtin; refine wpList_own_append3 _ rfl _ _ 32 32 rfl X4.heap.size 69 iP0 _ 40 Tryz.underlying32 iPa iPb iPc iPd rfl _ 0 [] rfl (own_nil1 X4 _ 3) _ 32 _ rfl HS4.out ?c3 ?c4 ?c5 ?_)
  case c3 => unfold maxLen; omega
  case c4 => omega
  case c5 => simp
  intro vP wD ha
  obtain ⟨hrP, hbD⟩ := own_new3 (n := 32) (xs := P.flatMap Pr3.cells) (by simpa using ha)
  obtain ⟨gp, cp, hvP, hgp, hgp'⟩ := own_sl hrP (by omega)
  subst hvP
  have hoD : wD.heap[wA.heap.size]? = some (.cells #[.slice (some ⟨gu, 0, none⟩) 32 cu, .slice (some ⟨gl, 0, none⟩) 32 cl, .slice (some ⟨gi, 0, none⟩) 32 ci, .slice none 0 0] 34 (0, 0)) := (hbD.block _ ol).trans H4.out.2.2.2.1
  have of3 := fz_block hoD 3
  obtain ⟨o0, o1, o2, o3, ol2⟩ := c4_block hoD
  obtain ⟨X5, hX5⟩ : ∃ X5, X5 = wD.setCell ⟨wA.heap.size, 3, none⟩ (.slice (some ⟨gp, 0, none⟩) 32 cp) := ⟨_, rfl⟩
  have hoth : ∀ k, k ≠ wA.heap.size → X5.heap[k]? = wD.heap[k]? := fun k hk => by rw [hX5]; exact Below.heap_setCell _ _ _ _ (by simpa using hk)
  have hsz5 : X5.heap.size = wD.heap.size := by rw [hX5]; simp [World.setCell]
  have H5 : Hid (Below w.heap.size w X5 ∧ X5.heap[w.heap.size + 1]? = some (.cells #[.slice none 0 0, .slice none 0 0, .slice none 0 0, .slice none 0 0] 34 (0, 0)) ∧ X5.heap[wA.heap.size]? = some (.cells #[.slice (some ⟨gu, 0, none⟩) 32 cu, .slice (some ⟨gl, 0, none⟩) 32 cl, .slice (some ⟨gi, 0, none⟩) 32 ci, .slice (some ⟨gp, 0, none⟩) 32 cp] 34 (0, 0)) ∧ RfO w.heap.size X5 gu cu gl cl gi ci gp cp U L I P ∧ w.heap.size + 1 < gu) := by
    have q := H4.out
    refine ⟨?_, (hoth _ (by omega)).trans ((hbD.block _ (lt_of_block q.2.2.1)).trans q.2.2.1), ?_, ⟨?_, ?_, ?_, ?_, ⟨by omega, by omega, by omega⟩, ?_, ?_⟩, by omega⟩
    · have hb0 := q.1.trans (hbD.mono q.1.size)
      rw [hX5]; exact hb0.setCell (by have := q.2.2.2.2.2.2.2; show w.heap.size ≤ wA.heap.size; omega) _
    · rw [hX5]; simpa using bx_set (j := 3) hoD (.slice (some ⟨gp, 0, none⟩) 32 cp)
    · exact row_kept (row_below q.2.2.2.2.1 hbD) (fun g hg => by simp [Value.ownBlock] at hg; exact hoth g (by omega))
    · exact row_kept (row_below q.2.2.2.2.2.1 hbD) (fun g hg => by simp [Value.ownBlock] at hg; exact hoth g (by omega))
    · exact row_kept (row_below q.2.2.2.2.2.2.1 hbD) (fun g hg => by simp [Value.ownBlock] at hg; exact hoth g (by omega))
    · exact row_low (row_kept hrP (fun g hg => by simp [Value.ownBlock] at hg; exact hoth g (by omega))) q.1.size
    · exact inrow_ok HIN.out.2.2.1 (by omega)
    · exact inrow_ok HIN.out.2.2.2 (by omega)
  clear ha hrP hbD hgp hgp' r0 r1 r2 r3 rl HS4 H4 hoth hsz5 hoD ol
  go_upto_region 5 with fail
  rw [← hX5]
  clear hX5 o0 o1 o2 o3 of3 ol2
  obtain ⟨o0, o1, o2, o3, ol⟩ := c4_block H5.out.2.2.1
  have hres := H5.out.2.1
  obtain ⟨s0, s1, s2, s3, sl⟩ := c4_block hres
  have sf := fz_block hres
  have hbb := H5.out.1
  have hrf := H5.out.2.2.2.1
  have hgu := H5.out.2.2.2.2
  go_wp2
  have hW : ∀ k, k ≠ w.heap.size + 1 → ((((X5.setCell ⟨w.heap.size + 1, 0, none⟩ (.slice (some ⟨gu, 0, none⟩) 32 cu)).setCell ⟨w.heap.size + 1, 1, none⟩ (.slice (some ⟨gl, 0, none⟩) 32 cl)).setCell ⟨w.heap.size + 1, 2, none⟩ (.slice (some ⟨gi, 0, none⟩) 32 ci)).setCell ⟨w.heap.size + 1, 3, none⟩ (.slice (some ⟨gp, 0, none⟩) 32 cp)).heap[k]? = X5.heap[k]? := fun k hk => by
    rw [Below.heap_setCell _ _ _ _ (by simpa using hk), Below.heap_setCell _ _ _ _ (by simpa using hk), Below.heap_setCell _ _ _ _ (by simpa using hk), Below.heap_setCell _ _ _ _ (by simpa using hk)]
  refine bodyPost_ret (v := rfv gu cu gl cl gi ci gp cp) (by simp [results, Tryz.results82, go_sem, rfv, *]) rfl ⟨gu, cu, gl, cl, gi, ci, gp, cp, rfl, hrf.kept (fun g hg => hW g (by omega)), ?_⟩
  exact (((hbb.setCell (by simp) _).setCell (by simp) _).setCell (by simp) _).setCell (by simp) _
end Go.Proofs.YtgiiadjocfnhlabGreatDoor

/- The document's ring while a call turns it: rows of its own, a box that holds it; what its words say. -/
namespace Go.Proofs.YtgiiadjocfnhlabGreatDoor
open Go.ChangeShapes Go.WideShapes Go.ChangeAt Go.RowKit Go.Deep
set_option linter.unusedVariables false

theorem nearI_R {R : Rg} (h : Inv R) {q frm tgt : Int} (ht : R.lives tgt = true) : nearI (lvL R) (idL R) q frm tgt = R.near q frm tgt := by
  have ht0 := h.rng tgt ht
  unfold nearI Rg.near Rg.lv
  rw [livesB_R h, idI_R (R := R) (n := tgt) ht0.1 ht0.2]
  cases hq : R.lives q
  · simp
  · have hq0 := h.rng q hq
    rw [idI_R (R := R) (n := q) hq0.1 hq0.2]
    have e1 : (tgt != -1) = true := by simp; omega
    have e2 : (q != -1) = true := by simp; omega
    simp [e1, e2]
theorem rectR_R {R : Rg} (h : Inv R) {id pred n : Int} (hn : R.lives n = true) : rectR (lvL R) (idL R) id pred n = R.rect id pred n := by
  have hn0 := h.rng n hn
  unfold rectR Rg.rect Rg.lv
  rw [livesB_R h, idI_R (R := R) (n := n) hn0.1 hn0.2]
  have e1 : (n != -1) = true := by simp; omega
  cases hp : R.lives pred
  · simp
  · have hp0 := h.rng pred hp
    rw [idI_R (R := R) (n := pred) hp0.1 hp0.2]
    have e2 : (pred != -1) = true := by simp; omega
    have e3 : (pred == -1) = false := by simp; omega
    simp [e1, e2, e3]
/-- What the members know lies where the rows show, below B or behind gp. -/
def KnP (X : World) (B gp : Nat) (R : Rg) (P : List Pr3) : Prop := ∀ k : Nat, k < 32 → ∀ x, R.kn k = some x → (P.getD k pr30).id = x.id ∧ (P.getD k pr30).pred = x.pred ∧ PeIn X x.id x.pred (P.getD k pr30).a (P.getD k pr30).len (P.getD k pr30).cap x.succ ∧ ∀ z, (P.getD k pr30).a = some z → z.block < B ∨ gp < z.block
theorem KnP.below {X X' : World} {B gp : Nat} {R : Rg} {P : List Pr3} (h : KnP X B gp R P) (hb : Below X.heap.size X X') : KnP X' B gp R P := fun k hk x hx =>
  ⟨(h k hk x hx).1, (h k hk x hx).2.1, (h k hk x hx).2.2.1.below (Nat.le_refl _) hb, (h k hk x hx).2.2.2⟩
theorem PeIn.setCell {w : World} {id pred : Int} {a : Option Addr} {len cap : Nat} {l : List Int} (h : PeIn w id pred a len cap l) {p o : Nat} (hp : ∀ x, a = some x → x.block ≠ p) (u : Value) : PeIn (w.setCell ⟨p, o, none⟩ u) id pred a len cap l :=
  ⟨h.hid, h.hpred, h.row.setCell hp u, h.hcap, h.hmost, h.hnil⟩
theorem KnP.set {X : World} {B gp : Nat} {R : Rg} {P : List Pr3} (h : KnP X B gp R P) (p o : Nat) (hp : B ≤ p ∧ p ≤ gp) (u : Value) : KnP (X.setCell ⟨p, o, none⟩ u) B gp R P := fun k hk x hx =>
  ⟨(h k hk x hx).1, (h k hk x hx).2.1, (h k hk x hx).2.2.1.setCell (fun z hz => by have := (h k hk x hx).2.2.2 z hz; omega) u, (h k hk x hx).2.2.2⟩
theorem getD_set3 (P : List Pr3) (k j : Nat) (q : Pr3) (hk : k < P.length) : (P.set k q).getD j pr30 = if j = k then q else P.getD j pr30 := by
  rw [List.getD_eq_getElem?_getD, List.getD_eq_getElem?_getD, List.getElem?_set]
  by_cases e : k = j
  · subst e; simp [hk]
  · rw [if_neg e, if_neg (Ne.symm e)]
/-- Behind a look. -/
theorem KnP.stab {X : World} {B gp : Nat} {R : Rg} {P : List Pr3} (h : KnP X B gp R P) (hi : Inv R) (hl : P.length = 32) {k s : Nat} (hk : R.lives k = true) (hs : R.next k = s) (a' : Option Addr) (c' : Nat) (hin : InIn X a' 3 ((s : Int) :: (R.know s).succ.take 2)) (hc1 : 3 ≤ c') (hc2 : c' ≤ 9223372036854775807) (hcl : ∀ z, a' = some z → z.block < B ∨ gp < z.block) (hnil : a' = none → (3 : Nat) = 0) :
    KnP X B gp (R.stab k) ((P.set k ⟨(P.getD k pr30).id, (P.getD k pr30).pred, a', 3, c'⟩).set s ⟨(P.getD s pr30).id, R.rect (R.know s).id (R.know s).pred k, (P.getD s pr30).a, (P.getD s pr30).len, (P.getD s pr30).cap⟩) := by
  have hn := hi.next hk
  rw [hs] at hn
  have hk0 := hi.rng _ hk
  have hs0 := hi.rng _ hn.1
  have hne : s ≠ k := fun e => hn.2.2.1 (by rw [e])
  intro j hj x hx
  rw [getD_set3 _ _ _ _ (by rw [List.length_set]; omega), getD_set3 _ _ _ _ (by omega)]
  have hst : R.stab k = (R.learn k s).tell s k := by unfold Rg.stab; rw [if_pos hk, hs]
  have hkn : (R.stab k).kn j = if (j : Int) = s then some ⟨((R.learn k s).know s).id, (R.learn k s).rect ((R.learn k s).know s).id ((R.learn k s).know s).pred k, ((R.learn k s).know s).succ⟩ else if (j : Int) = k then some ⟨(R.know k).id, (R.know k).pred, (s : Int) :: (R.know s).succ.take 2⟩ else R.kn j := by
    rw [hst]; rfl
  have e1 : (R.learn k s).know s = R.know s := by
    unfold Rg.learn; rw [know_setK, if_neg (by omega)]
  have hlv : (R.learn k s).lives = R.lives := by
    funext y
    unfold Rg.learn; rw [lives_setK]
    split
    · rename_i e; rw [e, hk]
    · rfl
  have e2 : (R.learn k s).rect (R.know s).id (R.know s).pred k = R.rect (R.know s).id (R.know s).pred k := by
    have e3 : ∀ y, (R.learn k s).lv y = R.lv y := fun y => by unfold Rg.lv; rw [hlv]
    have e4 : ∀ y, (R.learn k s).idOf y = R.idOf y := fun y => rfl
    unfold Rg.rect; rw [e3, e4, e4]
  rw [e1, e2] at hkn
  rw [hkn] at hx
  have ks : ∃ y, R.kn s = some y := by
    cases hy : R.kn s with
    | none => have := hn.1; simp [Rg.lives, hy] at this
    | some y => exact ⟨y, rfl⟩
  have kk : ∃ y, R.kn k = some y := by
    cases hy : R.kn k with
    | none => have := hk; simp [Rg.lives, hy] at this
    | some y => exact ⟨y, rfl⟩
  by_cases ej : j = s
  · subst ej
    rw [if_pos rfl] at hx
    rw [if_pos rfl]
    obtain ⟨y, hy⟩ := ks
    have hp := h j hj y hy
    have ek : R.know j = y := by simp [Rg.know, hy]
    rw [ek] at hx ⊢
    cases hx
    refine ⟨hp.1, rfl, ⟨hp.2.2.1.hid, ?_, hp.2.2.1.row, hp.2.2.1.hcap, hp.2.2.1.hmost, hp.2.2.1.hnil⟩, hp.2.2.2⟩
    rcases rect_or R y.id y.pred k with q | q
    · show i64 (R.rect y.id y.pred k); rw [q]; unfold i64; omega
    · show i64 (R.rect y.id y.pred k); rw [q]; exact hp.2.2.1.hpred
  · rw [if_neg (by omega)] at hx
    rw [if_neg ej]
    by_cases ek : j = k
    · subst ek
      rw [if_pos rfl] at hx
      rw [if_pos rfl]
      obtain ⟨y, hy⟩ := kk
      have hp := h j hj y hy
      have e5 : R.know j = y := by simp [Rg.know, hy]
      rw [e5] at hx
      cases hx
      exact ⟨hp.1, hp.2.1, ⟨hp.2.2.1.hid, hp.2.2.1.hpred, hin, hc1, hc2, hnil⟩, hcl⟩
    · rw [if_neg (by omega)] at hx
      rw [if_neg ek]
      exact h j hj x hx
theorem stab_rows {R : Rg} (hi : Inv R) {n : Int} (hn : R.lives n = true) : usL (R.stab n) = usL R ∧ lvL (R.stab n) = lvL R ∧ idL (R.stab n) = idL R := by
  have k := hi.look hn
  refine ⟨?_, ?_, ?_⟩
  · unfold usL; rw [k.pl]
  · unfold lvL; rw [k.livesF]
  · unfold idL; rw [k.idF]
theorem pl3_set (P : List Pr3) (n j : Nat) (hn : n < P.length) (hj : j < 3) (u : Value) (q : Pr3) (hq : q.cells = (P.getD n pr30).cells.set j u) : (pl3 P).set (n * 3 + j) u = pl3 (P.set n q) := by
  induction P generalizing n with
  | nil => simp at hn
  | cons x P ih =>
    cases n with
    | zero =>
      have e : pl3 (x :: P) = x.cells ++ pl3 P := rfl
      rw [e, Nat.zero_mul, Nat.zero_add, List.set_append_left _ _ (by show j < x.cells.length; exact hj)]
      have e2 : pl3 ((x :: P).set 0 q) = q.cells ++ pl3 P := rfl
      rw [e2, hq]; rfl
    | succ m =>
      have e : pl3 (x :: P) = x.cells ++ pl3 P := rfl
      have e2 : pl3 ((x :: P).set (m + 1) q) = x.cells ++ pl3 (P.set m q) := rfl
      have hl : x.cells.length = 3 := rfl
      rw [e, e2, List.set_append_right _ _ (by rw [hl]; omega), hl]
      have ei : (m + 1) * 3 + j - 3 = m * 3 + j := by omega
      rw [ei, ih m (by simpa using hn) (by simpa using hq)]
theorem RfO.low {B B' : Nat} {w : World} {gu cu gl cl gi ci gp cp : Nat} {U L : List Bool} {I : List Int} {P : List Pr3} (h : RfO B w gu cu gl cl gi ci gp cp U L I P) (hB : B' ≤ B) : RfO B' w gu cu gl cl gi ci gp cp U L I P :=
  ⟨row_low h.u hB, row_low h.l hB, row_low h.i hB, row_low h.p hB, h.ne, h.ok⟩
theorem RfO.below {B : Nat} {w w' : World} {gu cu gl cl gi ci gp cp : Nat} {U L : List Bool} {I : List Int} {P : List Pr3} (h : RfO B w gu cu gl cl gi ci gp cp U L I P) (hb : Below w.heap.size w w') : RfO B w' gu cu gl cl gi ci gp cp U L I P :=
  ⟨row_below h.u hb, row_below h.l hb, row_below h.i hb, row_below h.p hb, h.ne, h.ok⟩
theorem RfO.len {B : Nat} {w : World} {gu cu gl cl gi ci gp cp : Nat} {U L : List Bool} {I : List Int} {P : List Pr3} (h : RfO B w gu cu gl cl gi ci gp cp U L I P) : U.length = 32 ∧ L.length = 32 ∧ I.length = 32 ∧ P.length = 32 := by
  have h1 := h.u.1; have h2 := h.l.1; have h3 := h.i.1; have h4 := h.p.1
  have e4 : (pl3 P).length = P.length * 3 := flat_len Pr3.cells 3 Pr3.len3 P
  simp only [bl, ul, List.length_map] at h1 h2 h3
  exact ⟨by omega, by omega, by omega, by omega⟩
theorem RfO.lt {B : Nat} {w : World} {gu cu gl cl gi ci gp cp : Nat} {U L : List Bool} {I : List Int} {P : List Pr3} (h : RfO B w gu cu gl cl gi ci gp cp U L I P) : gu < w.heap.size ∧ gl < w.heap.size ∧ gi < w.heap.size ∧ gp < w.heap.size :=
  ⟨(h.u.lt gu rfl).2, (h.l.lt gl rfl).2, (h.i.lt gi rfl).2, (h.p.lt gp rfl).2⟩
theorem own_inB {w : World} {B g c : Nat} {L : List Bool} (h : w.ownsRow B 4 1 (.slice (some ⟨g, 0, none⟩) 32 c) 32 (bl L)) : LvIn w (some ⟨g, 0, none⟩) 32 L := by
  have hl : L.length = 32 := by have := h.1; simp [bl] at this; omega
  refine ⟨hl, by omega, .inr ⟨g, 0, rfl, (h.lt g rfl).2, fun i hi => ⟨trivial, fun j hj => ?_⟩⟩⟩
  obtain rfl : j = 0 := by omega
  have e := h.cells (g := g) rfl i (.bool (L.getD i false)) (by simp [bl, List.getD, hl, hi])
  rw [Addr.add_lit] at e
  simpa [encB] using e
theorem own_inU {w : World} {B g c : Nat} {L : List Int} (h : w.ownsRow B 25 1 (.slice (some ⟨g, 0, none⟩) 32 c) 32 (ul L)) (hu : ∀ x ∈ L, u64 x) : IdIn w (some ⟨g, 0, none⟩) 32 L := by
  have hl : L.length = 32 := by have := h.1; simp [ul] at this; omega
  refine ⟨hl, by omega, .inr ⟨g, 0, rfl, (h.lt g rfl).2, fun i hi => ⟨hu _ ?_, fun j hj => ?_⟩⟩⟩
  · rw [List.getD_eq_getElem?_getD, List.getElem?_eq_getElem (by omega)]; simp
  obtain rfl : j = 0 := by omega
  have e := h.cells (g := g) rfl i (.int .u64 (L.getD i 0)) (by simp [ul, List.getD, hl, hi])
  rw [Addr.add_lit] at e
  simpa [encU] using e
theorem own_inP {w : World} {B g c : Nat} {L : List Pr3} (h : w.ownsRow B 69 3 (.slice (some ⟨g, 0, none⟩) 32 c) 32 (pl3 L)) (hu : ∀ x ∈ L, x.ok) : InRow 3 Pr3.cells Pr3.ok pr30 w (some ⟨g, 0, none⟩) 32 L := by
  have hl : L.length = 32 := by
    have h1 := h.1
    have e4 : (pl3 L).length = L.length * 3 := flat_len Pr3.cells 3 Pr3.len3 L
    omega
  refine ⟨hl, by omega, .inr ⟨g, 0, rfl, (h.lt g rfl).2, fun i hi => ⟨hu _ ?_, fun j hj => ?_⟩⟩⟩
  · rw [List.getD_eq_getElem?_getD, List.getElem?_eq_getElem (by omega)]; simp
  have hx := flat_get Pr3.cells 3 Pr3.len3 pr30 L i j (by omega) hj
  have hj' : j < (L.getD i pr30).cells.length := hj
  have e := h.cells (g := g) rfl (i * 3 + j) ((L.getD i pr30).cells[j]) (by show (pl3 L)[i * 3 + j]? = _; rw [show (pl3 L) = L.flatMap Pr3.cells from rfl, hx, List.getElem?_eq_getElem hj'])
  rw [Addr.add_lit] at e
  rw [Nat.zero_add]
  rw [Nat.zero_add] at e
  rw [e, List.getElem?_eq_getElem hj']
theorem RfO.rfw {B : Nat} {w : World} {gu cu gl cl gi ci gp cp : Nat} {U L : List Bool} {I : List Int} {P : List Pr3} (h : RfO B w gu cu gl cl gi ci gp cp U L I P) : RfW w L I (.agg #[.slice (some ⟨gl, 0, none⟩) 32 cl, .slice (some ⟨gi, 0, none⟩) 32 ci]) :=
  ⟨_, 32, _, _, 32, _, rfl, own_inB h.l, own_inU h.i h.ok.1⟩
/-- A member's three cells. -/
theorem RfO.peer {B : Nat} {w : World} {gu cu gl cl gi ci gp cp : Nat} {U L : List Bool} {I : List Int} {P : List Pr3} (h : RfO B w gu cu gl cl gi ci gp cp U L I P) {k : Nat} (hk : k < 32) :
    w.cell? ⟨gp, k * 3, none⟩ = some (.int .u64 (P.getD k pr30).id) ∧ w.cell? ⟨gp, k * 3 + 1, none⟩ = some (.int .i64 (P.getD k pr30).pred) ∧ w.cell? ⟨gp, k * 3 + 2, none⟩ = some (.slice (P.getD k pr30).a (P.getD k pr30).len (P.getD k pr30).cap) := by
  obtain ⟨b, o, ha, _, hc⟩ := (own_inP h.p h.ok.2).2.2.resolve_left (by omega)
  simp only [Option.some.injEq, Addr.mk.injEq, and_true] at ha
  obtain ⟨rfl, rfl⟩ := ha
  have h0 := (hc k hk).2 0 (by omega)
  have h1 := (hc k hk).2 1 (by omega)
  have h2 := (hc k hk).2 2 (by omega)
  simp only [Nat.zero_add, Nat.add_zero] at h0 h1 h2
  exact ⟨h0, h1, h2⟩
theorem RfO.fz {B : Nat} {w : World} {gu cu gl cl gi ci gp cp : Nat} {U L : List Bool} {I : List Int} {P : List Pr3} (h : RfO B w gu cu gl cl gi ci gp cp U L I P) (j : Nat) : w.frozen? ⟨gu, j, none⟩ = false ∧ w.frozen? ⟨gl, j, none⟩ = false ∧ w.frozen? ⟨gi, j, none⟩ = false ∧ w.frozen? ⟨gp, j, none⟩ = false :=
  ⟨h.u.frozenAt j, h.l.frozenAt j, h.i.frozenAt j, h.p.frozenAt j⟩
/-- One cell of a member is stored. -/
theorem RfO.setP {B : Nat} {w : World} {gu cu gl cl gi ci gp cp : Nat} {U L : List Bool} {I : List Int} {P : List Pr3} (h : RfO B w gu cu gl cl gi ci gp cp U L I P) {k j : Nat} (hk : k < 32) (hj : j < 3) (u : Value) (q : Pr3) (hq : q.cells = (P.getD k pr30).cells.set j u) (hok : q.ok) :
    RfO B (w.setCell ⟨gp, k * 3 + j, none⟩ u) gu cu gl cl gi ci gp cp U L I (P.set k q) := by
  have hn := h.ne
  have hl := h.len
  have hs := (h.p.stored (k * 3 + j) u).1
  rw [pl3_set P k j (by omega) hj u q hq] at hs
  have ho : ∀ g, g ≠ gp → (w.setCell ⟨gp, k * 3 + j, none⟩ u).heap[g]? = w.heap[g]? := fun g hg => Below.heap_setCell _ _ _ _ (by simpa using hg)
  refine ⟨row_kept h.u (fun g hg => ?_), row_kept h.l (fun g hg => ?_), row_kept h.i (fun g hg => ?_), hs, h.ne, h.ok.1, fun x hx => ?_⟩
  · simp [Value.ownBlock] at hg; exact ho g (by omega)
  · simp [Value.ownBlock] at hg; exact ho g (by omega)
  · simp [Value.ownBlock] at hg; exact ho g (by omega)
  · rcases List.mem_or_eq_of_mem_set hx with r | r
    · exact h.ok.2 x r
    · rw [r]; exact hok
/-- A ring in a box, with another one behind it for the answer. -/
structure RfB (w X : World) (gu cu gl cl gi ci gp cp : Nat) (U L : List Bool) (I : List Int) (P : List Pr3) : Prop where
  box : X.heap[w.heap.size]? = some (.cells #[.slice (some ⟨gu, 0, none⟩) 32 cu, .slice (some ⟨gl, 0, none⟩) 32 cl, .slice (some ⟨gi, 0, none⟩) 32 ci, .slice (some ⟨gp, 0, none⟩) 32 cp] 34 (0, 0))
  res : X.heap[w.heap.size + 1]? = some (.cells #[.slice none 0 0, .slice none 0 0, .slice none 0 0, .slice none 0 0] 34 (0, 0))
  o : RfO w.heap.size X gu cu gl cl gi ci gp cp U L I P
  bel : Below w.heap.size w X
  lo : w.heap.size + 1 < gu
theorem RfB.below {w X X' : World} {gu cu gl cl gi ci gp cp : Nat} {U L : List Bool} {I : List Int} {P : List Pr3} (h : RfB w X gu cu gl cl gi ci gp cp U L I P) (hb : Below X.heap.size X X') : RfB w X' gu cu gl cl gi ci gp cp U L I P :=
  ⟨(hb.block _ (lt_of_block h.box)).trans h.box, (hb.block _ (lt_of_block h.res)).trans h.res, h.o.below hb, h.bel.trans (hb.mono h.bel.size), h.lo⟩
theorem RfB.setP {w X : World} {gu cu gl cl gi ci gp cp : Nat} {U L : List Bool} {I : List Int} {P : List Pr3} (h : RfB w X gu cu gl cl gi ci gp cp U L I P) {k j : Nat} (hk : k < 32) (hj : j < 3) (u : Value) (q : Pr3) (hq : q.cells = (P.getD k pr30).cells.set j u) (hok : q.ok) :
    RfB w (X.setCell ⟨gp, k * 3 + j, none⟩ u) gu cu gl cl gi ci gp cp U L I (P.set k q) := by
  have hn := h.o.ne
  have hl := h.lo
  exact ⟨(Below.heap_setCell _ _ _ _ (by show w.heap.size ≠ gp; omega)).trans h.box, (Below.heap_setCell _ _ _ _ (by show w.heap.size + 1 ≠ gp; omega)).trans h.res, h.o.setP hk hj u q hq hok, h.bel.setCell (by show w.heap.size ≤ gp; omega) _, h.lo⟩
/-- The rows as a ring of the document's. -/
theorem RfO.toV {B : Nat} {w : World} {gu cu gl cl gi ci gp cp : Nat} {R : Rg} {P : List Pr3} (h : RfO B w gu cu gl cl gi ci gp cp (usL R) (lvL R) (idL R) P) {B' : Nat} (hk : KnP w B' gp R P) : RfV w R (rfv gu cu gl cl gi ci gp cp) :=
  ⟨_, _, _, _, _, _, _, _, P, rfl, own_inB h.u, own_inB h.l, own_inU h.i h.ok.1, own_inP h.p h.ok.2, fun k hk' x hx => ⟨(hk k hk' x hx).1, (hk k hk' x hx).2.1, (hk k hk' x hx).2.2.1⟩⟩
end Go.Proofs.YtgiiadjocfnhlabGreatDoor

/- wigwagref10.Stabilize. -/
namespace Go.Proofs.YtgiiadjocfnhlabGreatDoor
open Go.ChangeShapes Go.WideShapes Go.ChangeAt Go.RowKit Go.Deep
set_option linter.unusedVariables false

/-- Both boxes at the start. -/
structure RfI (w W : World) (ua uc la lc ia ic pa pc : Value) : Prop where
  box : W.heap[w.heap.size]? = some (.cells #[ua, la, ia, pa] 34 (0, 0))
  res : W.heap[w.heap.size + 1]? = some (.cells #[.slice none 0 0, .slice none 0 0, .slice none 0 0, .slice none 0 0] 34 (0, 0))
  bel : Below w.heap.size w W
theorem RfI.below {w W W' : World} {ua uc la lc ia ic pa pc : Value} (h : RfI w W ua uc la lc ia ic pa pc) (hb : Below W.heap.size W W') : RfI w W' ua uc la lc ia ic pa pc :=
  ⟨(hb.block _ (lt_of_block h.box)).trans h.box, (hb.block _ (lt_of_block h.res)).trans h.res, h.bel.trans (hb.mono h.bel.size)⟩
theorem RfI.start (w : World) (ua la ia pa : Value) (x : Value) : RfI w ((w.alloc (.cells #[ua, la, ia, pa] 34)).alloc (.cells #[.slice none 0 0, .slice none 0 0, .slice none 0 0, .slice none 0 0] 34)) ua x la x ia x pa x :=
  ⟨by rw [Below.heap_alloc _ _ _ (by simp)]; exact heap_alloc_new w _, by simpa using heap_alloc_new (w.alloc (.cells #[ua, la, ia, pa] 34)) (.cells #[.slice none 0 0, .slice none 0 0, .slice none 0 0, .slice none 0 0] 34), (below_one _ _).trans ((below_one _ _).mono (by simp))⟩
def set4 (w : World) (p : Nat) (v0 v1 v2 v3 : Value) : World := (((w.setCell ⟨p, 0, none⟩ v0).setCell ⟨p, 1, none⟩ v1).setCell ⟨p, 2, none⟩ v2).setCell ⟨p, 3, none⟩ v3
theorem set4_box {w : World} {p : Nat} {c0 c1 c2 c3 : Value} {t : TypeId} (h : w.heap[p]? = some (.cells #[c0, c1, c2, c3] t (0, 0))) (v0 v1 v2 v3 : Value) : (set4 w p v0 v1 v2 v3).heap[p]? = some (.cells #[v0, v1, v2, v3] t (0, 0)) := by
  unfold set4
  have h0 : (w.setCell ⟨p, 0, none⟩ v0).heap[p]? = some (.cells #[v0, c1, c2, c3] t (0, 0)) := by simpa using bx_set (j := 0) h v0
  have h1 : ((w.setCell ⟨p, 0, none⟩ v0).setCell ⟨p, 1, none⟩ v1).heap[p]? = some (.cells #[v0, v1, c2, c3] t (0, 0)) := by simpa using bx_set (j := 1) h0 v1
  have h2 : (((w.setCell ⟨p, 0, none⟩ v0).setCell ⟨p, 1, none⟩ v1).setCell ⟨p, 2, none⟩ v2).heap[p]? = some (.cells #[v0, v1, v2, c3] t (0, 0)) := by simpa using bx_set (j := 2) h1 v2
  simpa using bx_set (j := 3) h2 v3
theorem set4_other {w : World} {p k : Nat} (hk : k ≠ p) (v0 v1 v2 v3 : Value) : (set4 w p v0 v1 v2 v3).heap[k]? = w.heap[k]? := by
  unfold set4
  rw [Below.heap_setCell _ _ _ _ (by simpa using hk), Below.heap_setCell _ _ _ _ (by simpa using hk), Below.heap_setCell _ _ _ _ (by simpa using hk), Below.heap_setCell _ _ _ _ (by simpa using hk)]
theorem set4_size {w : World} {p : Nat} (v0 v1 v2 v3 : Value) : (set4 w p v0 v1 v2 v3).heap.size = w.heap.size := by simp [set4, World.setCell]
theorem set4_below {w W : World} {B p : Nat} (h : Below B w W) (hp : B ≤ p) (v0 v1 v2 v3 : Value) : Below B w (set4 W p v0 v1 v2 v3) := by
  unfold set4
  exact (((h.setCell hp _).setCell hp _).setCell hp _).setCell hp _
/-- The answer is laid. -/
theorem RfV.answer {w W : World} {R : Rg} {v : Value} (h : RfV w R v) (hb : Below w.heap.size w W) : RfV W R v := h.below hb
theorem KnP.set4 {X : World} {B gp : Nat} {R : Rg} {P : List Pr3} (h : KnP X B gp R P) (p : Nat) (hp : B ≤ p ∧ p ≤ gp) (v0 v1 v2 v3 : Value) : KnP (set4 X p v0 v1 v2 v3) B gp R P := (((h.set p 0 hp v0).set p 1 hp v1).set p 2 hp v2).set p 3 hp v3
/-- The ring is copied and put into its box. -/
theorem RfB.start {w W X : World} {B gu cu gl cl gi ci gp cp : Nat} {U L : List Bool} {I : List Int} {P : List Pr3} {u0 u1 u2 u3 y : Value} (hI : RfI w W u0 y u1 y u2 y u3 y) (ho : RfO W.heap.size X gu cu gl cl gi ci gp cp U L I P) (hb : Below W.heap.size W X) :
    RfB w (set4 X w.heap.size (.slice (some ⟨gu, 0, none⟩) 32 cu) (.slice (some ⟨gl, 0, none⟩) 32 cl) (.slice (some ⟨gi, 0, none⟩) 32 ci) (.slice (some ⟨gp, 0, none⟩) 32 cp)) gu cu gl cl gi ci gp cp U L I P := by
  have h' := hI.below hb
  have hlt := lt_of_block hI.res
  have hgu := (ho.u.lt gu rfl).1
  have hn := ho.ne
  refine ⟨set4_box h'.box _ _ _ _, (set4_other (by omega) _ _ _ _).trans h'.res, (ho.kept (fun g hg => set4_other (by omega) _ _ _ _)).low (by omega), set4_below h'.bel (Nat.le_refl _) _ _ _ _, by omega⟩

set_option maxRecDepth 100000 in
set_option maxHeartbeats 4000000 in
theorem rstab_no (R : Rg) (v : Value) (n : Int) (w : World) (h : RfV w R v) (hi : Inv R) (hn : R.lives n = false) :
    Calls Tryz.prog 51 #[v, .int .i64 n] w fun e w' => ∃ v', e = .returned (.tuple #[v', .int .i64 6]) ∧ RfV w' R v' ∧ Below w.heap.size w w' := by
  have HV : Hid (RfV w R v) := h
  obtain ⟨ua, uc, la, lc, ia, ic, pa, pc, P, rfl, h1, h2, h3, h4, h5⟩ := h.ex
  have HW : Hid (RfW w (lvL R) (idL R) (.agg #[.slice la 32 lc, .slice ia 32 ic]) ∧ livesB (lvL R) n = false) := ⟨⟨la, 32, lc, ia, 32, ic, rfl, h2, h3⟩, by rw [livesB_R hi]; exact hn⟩
  clear h h1 h2 h3 h4 h5
  obtain ⟨W1, hW1⟩ : ∃ W1, W1 = (w.alloc (.cells #[.slice ua 32 uc, .slice la 32 lc, .slice ia 32 ic, .slice pa 32 pc] 34)).alloc (.cells #[.slice none 0 0, .slice none 0 0, .slice none 0 0, .slice none 0 0] 34) := ⟨_, rfl⟩
  have H1 : Hid (RfI w W1 (.slice ua 32 uc) (.bool true) (.slice la 32 lc) (.bool true) (.slice ia 32 ic) (.bool true) (.slice pa 32 pc) (.bool true)) := by rw [hW1]; exact RfI.start w _ _ _ _ _
  obtain ⟨r0, r1, r2, r3, rl⟩ := c4_block H1.out.box
  go_enter Tryz.func51, Tryz.ntmps51
  go_upto_region 1 with fail
  rw [← hW1]
  clear hW1
  go_wp2_with fail
  refine (rlives_r _ _ _ _ _ (HW.out.1.below H1.out.bel)).mono ?_
  rintro e w2 ⟨rfl, hb2⟩
  rw [HW.out.2]
  have H2 := H1.out.below hb2
  clear r0 r1 r2 r3 rl
  obtain ⟨r0, r1, r2, r3, rl⟩ := c4_block H2.box
  obtain ⟨s0, s1, s2, s3, sl⟩ := c4_block H2.res
  have sf := fz_block H2.res
  have hbb := H2.bel
  clear H2 hb2 H1
  go_wp2
  have hfin := set4_below hbb (p := w.heap.size + 1) (by omega) (.slice ua 32 uc) (.slice la 32 lc) (.slice ia 32 ic) (.slice pa 32 pc)
  unfold set4 at hfin
  refine bodyPost_ret (v := .tuple #[.agg #[.slice ua 32 uc, .slice la 32 lc, .slice ia 32 ic, .slice pa 32 pc], .int .i64 6]) (by simp [results, Tryz.results51, go_sem, s0, s1, s2, s3]) rfl ⟨_, rfl, HV.out.below hfin, hfin⟩
/-- What a member knows, in its three cells. -/
theorem KnP.at {X : World} {B gp : Nat} {R : Rg} {P : List Pr3} (h : KnP X B gp R P) (hi : Inv R) {k : Nat} (hk : R.lives k = true) : k < 32 ∧ (P.getD k pr30).id = (R.know k).id ∧ (P.getD k pr30).pred = (R.know k).pred ∧ (P.getD k pr30).len = 3 ∧ PeIn X (R.know k).id (R.know k).pred (P.getD k pr30).a 3 (P.getD k pr30).cap (R.know k).succ ∧ ∀ z, (P.getD k pr30).a = some z → z.block < B ∨ gp < z.block := by
  have hk0 := hi.rng _ hk
  have hl := hi.len _ hk
  have hk32 : k < 32 := by omega
  cases hy : R.kn k with
  | none => simp [Rg.lives, hy] at hk
  | some y =>
    have e : R.know k = y := by simp [Rg.know, hy]
    rw [e] at hl ⊢
    have hp := h k hk32 y hy
    have h3 : (P.getD k pr30).len = 3 := by rw [← hp.2.2.1.row.1]; exact hl
    refine ⟨hk32, hp.1, hp.2.1, h3, ?_, hp.2.2.2⟩
    rw [← h3]; exact hp.2.2.1
theorem KnP.ofV {w X : World} {R : Rg} {P : List Pr3} {gp : Nat} (hi : Inv R) (h : ∀ k : Nat, k < 32 → PrOk w (R.kn k) (P.getD k pr30)) (hb : Below w.heap.size w X) : KnP X w.heap.size gp R P := fun k hk x hx => by
  have hp := h k hk x hx
  refine ⟨hp.1, hp.2.1, hp.2.2.below (Nat.le_refl _) hb, fun z hz => .inl ?_⟩
  have hl := hi.lens k x hx
  rcases hp.2.2.row.2.2 with q | ⟨b, o, ha, hlt, _⟩
  · have := hp.2.2.row.1; omega
  · rw [ha] at hz; cases hz; exact hlt

set_option maxRecDepth 100000 in
set_option maxHeartbeats 8000000 in
theorem rstab_yes (R : Rg) (v : Value) (k : Nat) (w : World) (h : RfV w R v) (hi : Inv R) (hn : R.lives k = true) :
    Calls Tryz.prog 51 #[v, .int .i64 (k : Int)] w fun e w' => ∃ v', e = .returned (.tuple #[v', .int .i64 0]) ∧ RfV w' (R.stab k) v' ∧ Below w.heap.size w w' := by
  obtain ⟨ua, uc, la, lc, ia, ic, pa, pc, P, rfl, h1, h2, h3, h4, h5⟩ := h.ex
  have HW : Hid (RfW w (lvL R) (idL R) (.agg #[.slice la 32 lc, .slice ia 32 ic]) ∧ livesB (lvL R) k = true) := ⟨⟨la, 32, lc, ia, 32, ic, rfl, h2, h3⟩, by rw [livesB_R hi]; exact hn⟩
  have HI : Hid (Inv R ∧ R.lives k = true) := ⟨hi, hn⟩
  have HIN : Hid (LvIn w ua 32 (usL R) ∧ LvIn w la 32 (lvL R) ∧ IdIn w ia 32 (idL R) ∧ InRow 3 Pr3.cells Pr3.ok pr30 w pa 32 P ∧ ∀ j : Nat, j < 32 → PrOk w (R.kn j) (P.getD j pr30)) := ⟨h1, h2, h3, h4, h5⟩
  have hk32 : k < 32 := by have := hi.rng _ hn; omega
  clear h h1 h2 h3 h4 h5 hi hn
  obtain ⟨W1, hW1⟩ : ∃ W1, W1 = (w.alloc (.cells #[.slice ua 32 uc, .slice la 32 lc, .slice ia 32 ic, .slice pa 32 pc] 34)).alloc (.cells #[.slice none 0 0, .slice none 0 0, .slice none 0 0, .slice none 0 0] 34) := ⟨_, rfl⟩
  have H1 : Hid (RfI w W1 (.slice ua 32 uc) (.bool true) (.slice la 32 lc) (.bool true) (.slice ia 32 ic) (.bool true) (.slice pa 32 pc) (.bool true)) := by rw [hW1]; exact RfI.start w _ _ _ _ _
  obtain ⟨r0, r1, r2, r3, rl⟩ := c4_block H1.out.box
  go_enter Tryz.func51, Tryz.ntmps51
  go_upto_region 1 with fail
  rw [← hW1]
  clear hW1
  go_wp2_with fail
  refine (rlives_r _ _ _ _ _ (HW.out.1.below H1.out.bel)).mono ?_
  rintro e w2 ⟨rfl, hb2⟩
  rw [HW.out.2]
  have H2 : Hid (RfI w w2 (.slice ua 32 uc) (.bool true) (.slice la 32 lc) (.bool true) (.slice ia 32 ic) (.bool true) (.slice pa 32 pc) (.bool true)) := H1.out.below hb2
  clear r0 r1 r2 r3 rl H1 hb2 HW
  obtain ⟨r0, r1, r2, r3, rl⟩ := c4_block H2.out.box
  have rf := fz_block H2.out.box
  have bl2 : Hid (Below w.heap.size w w2) := H2.out.bel
  go_wp2_with fail
  refine (rcopy_r ua la ia pa uc lc ic pc (usL R) (lvL R) (idL R) P w2 (HIN.out.1.below (Nat.le_refl _) bl2.out) (HIN.out.2.1.below (Nat.le_refl _) bl2.out) (HIN.out.2.2.1.below (Nat.le_refl _) bl2.out) (HIN.out.2.2.2.1.below (Nat.le_refl _) bl2.out)).mono ?_
  rintro e w3 ⟨gu, cu, gl, cl, gi, ci, gp, cp, rfl, ho3, hb3⟩
  obtain ⟨X3, hX3⟩ : ∃ X3, X3 = set4 w3 w.heap.size (.slice (some ⟨gu, 0, none⟩) 32 cu) (.slice (some ⟨gl, 0, none⟩) 32 cl) (.slice (some ⟨gi, 0, none⟩) 32 ci) (.slice (some ⟨gp, 0, none⟩) 32 cp) := ⟨_, rfl⟩
  have H3 : Hid (RfB w X3 gu cu gl cl gi ci gp cp (usL R) (lvL R) (idL R) P ∧ KnP X3 w.heap.size gp R P) := by
    have hB : RfB w X3 gu cu gl cl gi ci gp cp (usL R) (lvL R) (idL R) P := by rw [hX3]; exact RfB.start (B := 0) H2.out ho3 hb3
    exact ⟨hB, KnP.ofV HI.out.1 HIN.out.2.2.2.2 hB.bel⟩
  have h33 := H2.out.below hb3
  clear r0 r1 r2 r3 rl rf
  obtain ⟨r0, r1, r2, r3, rl⟩ := c4_block h33.box
  have rf := fz_block h33.box
  unfold set4 at hX3
  unfold rfv
  clear H2 bl2 HIN ho3 hb3 h33
  go_upto_region 4 with fail
  rw [← hX3]
  clear hX3 r0 r1 r2 r3 rl rf
  have hs0 := HI.out.1.head HI.out.2
  have hnx := HI.out.1.next HI.out.2
  obtain ⟨q0, hq0⟩ : ∃ q0 : Nat, R.head k = q0 := ⟨(R.head k).toNat, by have := HI.out.1.rng _ hs0.1; omega⟩
  obtain ⟨s, hs⟩ : ∃ s : Nat, R.next k = s := ⟨(R.next k).toNat, by have := HI.out.1.rng _ hnx.1; omega⟩
  rw [hq0] at hs0
  rw [hs] at hnx
  have hq32 := HI.out.1.rng _ hs0.1
  have hs32 := HI.out.1.rng _ hnx.1
  have HQ : Hid (R.head k = q0 ∧ R.next k = s ∧ R.lives q0 = true ∧ R.lives s = true ∧ s ≠ k) := ⟨hq0, hs, hs0.1, hnx.1, fun e => hnx.2.2.1 (by rw [e])⟩
  have hq32' : q0 < 32 := by omega
  have hs32' : s < 32 := by omega
  clear hs0 hnx hq0 hs hq32 hs32
  -- the head
  obtain ⟨b0, b1, b2, b3, blt⟩ := c4_block H3.out.1.box
  obtain ⟨p0, p1, p2⟩ := H3.out.1.o.peer hk32
  have hat := H3.out.2.at HI.out.1 HI.out.2
  rw [hat.2.2.2.1] at p2
  generalize (P.getD k pr30).id = kid at p0
  generalize (P.getD k pr30).pred = kpr at p1
  obtain ⟨ka, hka⟩ : ∃ ka, ka = (P.getD k pr30).a := ⟨_, rfl⟩
  obtain ⟨kc, hkc⟩ : ∃ kc, kc = (P.getD k pr30).cap := ⟨_, rfl⟩
  rw [← hka, ← hkc] at p2
  have HL : Hid (InIn X3 ka 3 (R.know k).succ ∧ headI (lvL R) (R.know k).succ = q0) := ⟨by rw [hka]; exact hat.2.2.2.2.1.row, by rw [headI_R HI.out.1, ← HQ.out.1]; unfold Rg.head; rw [HI.out.1.lv]⟩
  clear hka hkc hat
  obtain ⟨ι, F, _, hF0, hFb, hFc⟩ := grown_fam X3
  have f1 : ∀ i, (F i).cell? ⟨w.heap.size, 1, none⟩ = _ := fun i => cell_grown b1 (hFb i)
  have f2 : ∀ i, (F i).cell? ⟨w.heap.size, 2, none⟩ = _ := fun i => cell_grown b2 (hFb i)
  have f3 : ∀ i, (F i).cell? ⟨w.heap.size, 3, none⟩ = _ := fun i => cell_grown b3 (hFb i)
  have g0 : ∀ i, (F i).cell? ⟨gp, k * 3, none⟩ = _ := fun i => cell_grown p0 (hFb i)
  have g1 : ∀ i, (F i).cell? ⟨gp, k * 3 + 1, none⟩ = _ := fun i => cell_grown p1 (hFb i)
  have g2 : ∀ i, (F i).cell? ⟨gp, k * 3 + 2, none⟩ = _ := fun i => cell_grown p2 (hFb i)
  have HF : Hid ((∃ i, { X3 with drawn := X3.drawn + 1 } = F i) ∧ (∀ i, Below X3.heap.size X3 (F i)) ∧ (∀ i W, Below X3.heap.size (F i) W → ∃ j, W = F j)) := ⟨hF0, hFb, hFc⟩
  have HR : Hid (∀ i, RfW (F i) (lvL R) (idL R) (.agg #[.slice (some ⟨gl, 0, none⟩) 32 cl, .slice (some ⟨gi, 0, none⟩) 32 ci])) := fun i => (H3.out.1.o.below (hFb i)).rfw
  have HLi : Hid (∀ i, InIn (F i) ka 3 (R.know k).succ) := fun i => HL.out.1.below (Nat.le_refl _) (hFb i)
  clear hF0 hFb hFc b0 b1 b2 b3 p0 p1 p2
  refine wp_region_fam F HF.out.1 (by kernel_rfl) (by kernel_rfl) ?_
  repeat (go_big_quiet_step (first
    | (go_at_call 58; refine (rhead_r (lvL R) (idL R) _ _ _ ka 3 kc (R.know k).succ _ (HR.out _) (HLi.out _)).mono ?_; rintro e' w' ⟨hs, hb⟩; exact ⟨by rw [hs, HL.out.2], HF.out.2.2 _ _ (hb.mono (HF.out.2.1 _).size)⟩)))
  refine wpQuiet_nil ?_
  rintro _ ⟨i, rfl⟩
  have HB4 := HF.out.2.1 i
  have H4 : Hid (RfB w (F i) gu cu gl cl gi ci gp cp (usL R) (lvL R) (idL R) P ∧ KnP (F i) w.heap.size gp R P) := ⟨H3.out.1.below HB4, H3.out.2.below HB4⟩
  clear f1 f2 f3 g0 g1 g2 HF HR HLi HL H3 HB4 blt
  generalize F i = W4 at H4 ⊢
  -- whom the head knows ahead of it
  obtain ⟨b0, b1, b2, b3, blt⟩ := c4_block H4.out.1.box
  obtain ⟨u0, u1, u2⟩ := H4.out.1.o.peer hq32'
  have hat := H4.out.2.at HI.out.1 HQ.out.2.2.1
  rw [hat.2.2.1] at u1
  obtain ⟨p0, p1, p2⟩ := H4.out.1.o.peer hk32
  have hatk := H4.out.2.at HI.out.1 HI.out.2
  rw [hatk.2.1] at p0
  have hidu : 0 ≤ (R.know k).id ∧ (R.know k).id ≤ 18446744073709551615 := hatk.2.2.2.2.1.hid
  have hnr := nearI_R (q := (R.know q0).pred) (frm := (R.know k).id) HI.out.1 HQ.out.2.2.1
  have hnx : (if R.near (R.know q0).pred (R.know k).id q0 then (R.know q0).pred else (q0 : Int)) = s := by
    have := HQ.out.2.1
    unfold Rg.next at this
    rw [HQ.out.1] at this
    exact this
  generalize (R.know q0).pred = qp at u1 hnr hnx
  generalize (R.know k).id = kid2 at p0 hidu hnr hnx
  generalize R.near qp kid2 q0 = nb at hnr hnx
  have HNR : Hid (nearI (lvL R) (idL R) qp kid2 q0 = nb ∧ 0 ≤ kid2 ∧ kid2 ≤ 18446744073709551615) := ⟨hnr, hidu⟩
  have HNX : Hid ((if nb then qp else (q0 : Int)) = s) := hnx
  clear hat hatk hidu hnr hnx u0 u2 p1 p2
  go_upto_region 6 with fail
  clear u1
  obtain ⟨ι2, F, _, hF0, hFb, hFc⟩ := grown_fam W4
  have f1 : ∀ i, (F i).cell? ⟨w.heap.size, 1, none⟩ = _ := fun i => cell_grown b1 (hFb i)
  have f2 : ∀ i, (F i).cell? ⟨w.heap.size, 2, none⟩ = _ := fun i => cell_grown b2 (hFb i)
  have f3 : ∀ i, (F i).cell? ⟨w.heap.size, 3, none⟩ = _ := fun i => cell_grown b3 (hFb i)
  have g0 : ∀ i, (F i).cell? ⟨gp, k * 3, none⟩ = _ := fun i => cell_grown p0 (hFb i)
  have HF : Hid ((∃ i, { W4 with drawn := W4.drawn + 1 } = F i) ∧ (∀ i, Below W4.heap.size W4 (F i)) ∧ (∀ i W, Below W4.heap.size (F i) W → ∃ j, W = F j)) := ⟨hF0, hFb, hFc⟩
  have HR : Hid (∀ i, RfW (F i) (lvL R) (idL R) (.agg #[.slice (some ⟨gl, 0, none⟩) 32 cl, .slice (some ⟨gi, 0, none⟩) 32 ci])) := fun i => (H4.out.1.o.below (hFb i)).rfw
  clear hF0 hFb hFc b0 b1 b2 b3 p0
  refine wp_region_fam F HF.out.1 (by kernel_rfl) (by kernel_rfl) ?_
  repeat (go_big_quiet_step (first
    | (go_at_call 61; refine (rnearer_r (lvL R) (idL R) _ qp kid2 _ _ (HR.out _) HNR.out.2).mono ?_; rintro e' w' ⟨hs, hb⟩; exact ⟨by rw [hs, HNR.out.1], HF.out.2.2 _ _ (hb.mono (HF.out.2.1 _).size)⟩)))
  refine wpQuiet_nil ?_
  rintro _ ⟨i2, rfl⟩
  have HB6 := HF.out.2.1 i2
  have H6 : Hid (RfB w (F i2) gu cu gl cl gi ci gp cp (usL R) (lvL R) (idL R) P ∧ KnP (F i2) w.heap.size gp R P) := ⟨H4.out.1.below HB6, H4.out.2.below HB6⟩
  clear f1 f2 f3 g0 HF HR H4 HB6 blt HNR
  generalize F i2 = W6 at H6 ⊢
  go_upto_if 40 with fail
  go_cut [6] (fun v wx => v = .int .i64 (s : Int) ∧ W6 = wx)
  case first =>
    cases nb
    · go_wp2
      go_meet
      exact ⟨congrArg (Value.int .i64) HNX.out, rfl⟩
    · go_wp2
      go_meet
      exact ⟨congrArg (Value.int .i64) HNX.out, rfl⟩
  case rest =>
    obtain ⟨rfl, hwx⟩ := hcut
    subst hwx
    clear HNX
    -- the list
    obtain ⟨b0, b1, b2, b3, blt⟩ := c4_block H6.out.1.box
    obtain ⟨u0, u1, u2⟩ := H6.out.1.o.peer hs32'
    obtain ⟨p0, p1, p2⟩ := H6.out.1.o.peer hk32
    have hat := H6.out.2.at HI.out.1 HQ.out.2.2.2.1
    have hn4 := H6.out.1.o.ne
    have hglt := H6.out.1.o.lt
    have hlow := H6.out.1.lo
    rw [hat.2.1] at u0
    rw [hat.2.2.1] at u1
    rw [hat.2.2.2.1] at u2
    obtain ⟨sa, hsa⟩ : ∃ sa, sa = (P.getD s pr30).a := ⟨_, rfl⟩
    obtain ⟨sc, hsc⟩ : ∃ sc, sc = (P.getD s pr30).cap := ⟨_, rfl⟩
    obtain ⟨sid, hsid⟩ : ∃ sid, sid = (R.know s).id := ⟨_, rfl⟩
    obtain ⟨spr, hspr⟩ : ∃ spr, spr = (R.know s).pred := ⟨_, rfl⟩
    rw [← hsa, ← hsc] at u2
    rw [← hsid] at u0
    rw [← hspr] at u1
    have HS : Hid (sa = (P.getD s pr30).a ∧ sc = (P.getD s pr30).cap ∧ sid = (R.know s).id ∧ spr = (R.know s).pred ∧ (P.getD s pr30).len = 3 ∧ (P.getD s pr30).id = sid ∧ (P.getD s pr30).pred = spr ∧ (0 ≤ sid ∧ sid ≤ 18446744073709551615) ∧ (-9223372036854775808 ≤ spr ∧ spr ≤ 9223372036854775807) ∧ P.length = 32) := ⟨hsa, hsc, hsid, hspr, hat.2.2.2.1, hat.2.1.trans hsid.symm, hat.2.2.1.trans hspr.symm, by rw [hsid]; exact hat.2.2.2.2.1.hid, by rw [hspr]; exact hat.2.2.2.2.1.hpred, H6.out.1.o.len.2.2.2⟩
    have hrow : InIn W6 sa 3 (R.know s).succ := by rw [hsa]; exact hat.2.2.2.2.1.row
    have HFO : Hid (∀ W, Below W6.heap.size W6 W → Calls Tryz.prog 83 #[.int .i64 (s : Int), .agg #[.int .u64 sid, .int .i64 spr, .slice sa 3 sc]] W fun e w' => ∃ a' c', e = .returned (.slice a' 3 c') ∧ InIn w' a' 3 ((s : Int) :: (R.know s).succ.take 2) ∧ 3 ≤ c' ∧ c' ≤ 9223372036854775807 ∧ (∀ x, a' = some x → W.heap.size ≤ x.block) ∧ Below W.heap.size W w') := fun W hW => by
      refine (rfollow_r (s : Int) (.int .u64 sid) (.int .i64 spr) sa 3 sc (R.know s).succ W (hrow.below (Nat.le_refl _) hW) (by unfold i64; omega) (by omega)).mono ?_
      rintro e w' ⟨a', c', rfl, h⟩
      exact ⟨a', c', rfl, h⟩
    have f2 := (H6.out.1.o.fz (k * 3 + 2)).2.2.2
    have hsI : (0 : Int) ≤ (s : Int) ∧ (s : Int) < 32 := by omega
    have hkI : (0 : Int) ≤ (k : Int) ∧ (k : Int) < 32 := by omega
    clear hat hsa hsc hsid hspr hrow
    go_upto_region 8 with fail
    go_cut [] (fun wx => ∃ w8 a' c', Hid (wx = World.setCell w8 ⟨gp, k * 3 + 2, none⟩ (.slice a' 3 c') ∧ Below W6.heap.size W6 w8 ∧ InIn w8 a' 3 ((s : Int) :: (R.know s).succ.take 2) ∧ 3 ≤ c' ∧ c' ≤ 9223372036854775807 ∧ ∀ x, a' = some x → W6.heap.size ≤ x.block))
    case first =>
      go_region_law
        ((go_simp; go_at_call 83; refine Calls.mono (HFO.out _ (by exact ⟨rfl, rfl, rfl, Nat.le_refl _, fun _ _ => rfl⟩)) ?_; rintro e w8 ⟨a', c', rfl, hin, hc1, hc2, hnew, hb8⟩
          have B8 : Below W6.heap.size W6 w8 := ⟨hb8.os, hb8.tape, hb8.output, hb8.size, hb8.block⟩
          have y3 := cell_grown b3 B8
          have y2 := cell_grown p2 B8
          have z2 : w8.frozen? ⟨gp, k * 3 + 2, none⟩ = false := (World.frozen?_of_block (a := ⟨gp, k * 3 + 2, none⟩) (B8.block gp hglt.2.2.2)).trans f2
          have yl := cell_block y3
          have yl2 := cell_block y2))
      all_goals (try go_wp2_with fail)
      all_goals go_meet
      all_goals exact ⟨w8, a', c', rfl, B8, hin, hc1, hc2, hnew⟩
    case rest =>
      rename World => X8
      obtain ⟨w8, a', c', HC⟩ := hcut
      have HB8 : Hid (RfB w X8 gu cu gl cl gi ci gp cp (usL R) (lvL R) (idL R) (P.set k ⟨(P.getD k pr30).id, (P.getD k pr30).pred, a', 3, c'⟩) ∧ KnP X8 w.heap.size gp R P ∧ InIn X8 a' 3 ((s : Int) :: (R.know s).succ.take 2) ∧ 3 ≤ c' ∧ c' ≤ 9223372036854775807 ∧ (∀ x, a' = some x → gp < x.block)) := by
        have hq := HC.out
        have hlt : ∀ x, a' = some x → gp < x.block := fun x hx => by have := hq.2.2.2.2.2 x hx; omega
        rw [hq.1]
        have hm : P.getD k pr30 ∈ P := by rw [List.getD_eq_getElem?_getD, List.getElem?_eq_getElem (by have := HS.out.2.2.2.2.2.2.2.2.2; omega)]; simp
        refine ⟨(H6.out.1.below hq.2.1).setP hk32 (by omega) _ _ rfl (show (⟨(P.getD k pr30).id, (P.getD k pr30).pred, a', 3, c'⟩ : Pr3).ok from H6.out.1.o.ok.2 (P.getD k pr30) hm), (H6.out.2.below hq.2.1).set gp _ ⟨by omega, Nat.le_refl _⟩ _, hq.2.2.1.setCell (fun x hx => by have := hlt x hx; omega) _, hq.2.2.2.1, hq.2.2.2.2.1, hlt⟩
      clear HC b0 b1 b2 b3 u0 u1 u2 p0 p1 p2 f2 HFO blt H6
      -- the other one is told
      have hne := HQ.out.2.2.2.2
      have hPl : (P.set k ⟨(P.getD k pr30).id, (P.getD k pr30).pred, a', 3, c'⟩).getD s pr30 = P.getD s pr30 := by rw [getD_set3 _ _ _ _ (by have := HS.out.2.2.2.2.2.2.2.2.2; omega), if_neg hne]
      obtain ⟨b0, b1, b2, b3, blt⟩ := c4_block HB8.out.1.box
      obtain ⟨u0, u1, u2⟩ := HB8.out.1.o.peer hs32'
      rw [hPl, HS.out.2.2.2.2.2.1] at u0
      rw [hPl, HS.out.2.2.2.2.2.2.1] at u1
      rw [hPl, HS.out.2.2.2.2.1, ← HS.out.1, ← HS.out.2.1] at u2
      have hglt8 := HB8.out.1.o.lt
      have e0 := (HB8.out.1.o.fz (s * 3)).2.2.2
      have e1 := (HB8.out.1.o.fz (s * 3 + 1)).2.2.2
      have e2 := (HB8.out.1.o.fz (s * 3 + 2)).2.2.2
      obtain ⟨rr, hrr⟩ : ∃ rr, rr = R.rect sid spr k := ⟨_, rfl⟩
      have HRR : Hid (rr = R.rect sid spr k) := hrr
      have HRC : Hid (∀ W, Below X8.heap.size X8 W → Calls Tryz.prog 84 #[.agg #[.int .u64 sid, .int .i64 spr, .slice sa 3 sc], .int .i64 (k : Int), .agg #[.slice (some ⟨gl, 0, none⟩) 32 cl, .slice (some ⟨gi, 0, none⟩) 32 ci]] W fun e w' => e = .returned (.agg #[.int .u64 sid, .int .i64 rr, .slice sa 3 sc]) ∧ Below W.heap.size W w') := fun W hW => by
        rw [hrr, ← rectR_R HI.out.1 HI.out.2]
        exact rrect_r (lvL R) (idL R) _ sid spr k sa 3 sc W (HB8.out.1.o.below hW).rfw HS.out.2.2.2.2.2.2.2.1
      clear hrr hPl hne
      go_upto_region 9 with fail
      go_cut [] (fun wx => ∃ w9, Hid (wx = World.setCell (World.setCell (World.setCell w9 ⟨gp, s * 3, none⟩ (.int .u64 sid)) ⟨gp, s * 3 + 1, none⟩ (.int .i64 rr)) ⟨gp, s * 3 + 2, none⟩ (.slice sa 3 sc) ∧ Below X8.heap.size X8 w9))
      case first =>
        go_region_law
          ((go_simp; go_at_call 84; refine Calls.mono (HRC.out _ (by exact ⟨rfl, rfl, rfl, Nat.le_refl _, fun _ _ => rfl⟩)) ?_; rintro e w9 ⟨rfl, hb9⟩
            have B9 : Below X8.heap.size X8 w9 := ⟨hb9.os, hb9.tape, hb9.output, hb9.size, hb9.block⟩
            have y3 := cell_grown b3 B9
            have v0 := cell_grown u0 B9
            have v1 := cell_grown u1 B9
            have v2 := cell_grown u2 B9
            have z0 : w9.frozen? ⟨gp, s * 3, none⟩ = false := (World.frozen?_of_block (a := ⟨gp, s * 3, none⟩) (B9.block gp hglt8.2.2.2)).trans e0
            have z1 : w9.frozen? ⟨gp, s * 3 + 1, none⟩ = false := (World.frozen?_of_block (a := ⟨gp, s * 3 + 1, none⟩) (B9.block gp hglt8.2.2.2)).trans e1
            have z2 : w9.frozen? ⟨gp, s * 3 + 2, none⟩ = false := (World.frozen?_of_block (a := ⟨gp, s * 3 + 2, none⟩) (B9.block gp hglt8.2.2.2)).trans e2
            have yl := cell_block y3
            have yl2 := cell_block v0))
        all_goals (try go_wp2_with fail)
        all_goals go_meet
        all_goals exact ⟨w9, rfl, B9⟩
      case rest =>
        rename World => X9
        obtain ⟨w9, HC⟩ := hcut
        have hfin : RfB w X9 gu cu gl cl gi ci gp cp (usL (R.stab k)) (lvL (R.stab k)) (idL (R.stab k)) ((P.set k ⟨(P.getD k pr30).id, (P.getD k pr30).pred, a', 3, c'⟩).set s ⟨(P.getD s pr30).id, R.rect (R.know s).id (R.know s).pred k, (P.getD s pr30).a, (P.getD s pr30).len, (P.getD s pr30).cap⟩) ∧ KnP X9 w.heap.size gp (R.stab k) ((P.set k ⟨(P.getD k pr30).id, (P.getD k pr30).pred, a', 3, c'⟩).set s ⟨(P.getD s pr30).id, R.rect (R.know s).id (R.know s).pred k, (P.getD s pr30).a, (P.getD s pr30).len, (P.getD s pr30).cap⟩) := by
          obtain ⟨hX, hb9⟩ := HC.out
          obtain ⟨hB, hK, hL, hc1, hc2, hcl⟩ := HB8.out
          have hS := HS.out
          have hstr := stab_rows HI.out.1 HI.out.2
          have hlen := hS.2.2.2.2.2.2.2.2.2
          have hB9 := hB.below hb9
          have hlen1 : (P.set k ⟨(P.getD k pr30).id, (P.getD k pr30).pred, a', 3, c'⟩).length = 32 := by rw [List.length_set]; exact hlen
          have hP1 : (P.set k ⟨(P.getD k pr30).id, (P.getD k pr30).pred, a', 3, c'⟩).getD s pr30 = ⟨sid, spr, sa, 3, sc⟩ := by
            rw [getD_set3 _ _ _ _ (by omega), if_neg HQ.out.2.2.2.2]
            have e1 := hS.2.2.2.2.2.1; have e2 := hS.2.2.2.2.2.2.1; have e3 := hS.1; have e4 := hS.2.1; have e5 := hS.2.2.2.2.1
            cases hq : P.getD s pr30 with
            | mk a1 a2 a3 a4 a5 => rw [hq] at e1 e2 e3 e4 e5; simp only at e1 e2 e3 e4 e5; subst e1 e2 e3 e4 e5; rfl
          have hK9 : KnP X9 w.heap.size gp R P := by
            rw [hX]
            have hp : w.heap.size ≤ gp ∧ gp ≤ gp := ⟨by omega, Nat.le_refl _⟩
            exact (((hK.below hb9).set gp _ hp _).set gp _ hp _).set gp _ hp _
          have hL9 : InIn X9 a' 3 ((s : Int) :: (R.know s).succ.take 2) := by
            rw [hX]
            have hp : ∀ x, a' = some x → x.block ≠ gp := fun x hx => by have := hcl x hx; omega
            exact (((hL.below (Nat.le_refl _) hb9).setCell hp _).setCell hp _).setCell hp _
          have hKs := hK9.stab HI.out.1 hlen HI.out.2 HQ.out.2.1 a' c' hL9 hc1 hc2 (fun z hz => .inr (hcl z hz)) (fun e => by
            rcases hL9.2.2 with q | ⟨b, o, ha, _⟩
            · omega
            · rw [e] at ha; cases ha)
          refine ⟨?_, hKs⟩
          clear hKs hK9 hL9
          generalize (P.set k ⟨(P.getD k pr30).id, (P.getD k pr30).pred, a', 3, c'⟩) = P1 at hB9 hP1 hlen1 ⊢
          have hrok : i64 rr := by
            rw [HRR.out]
            rcases rect_or R sid spr k with q | q
            · rw [q]; show -9223372036854775808 ≤ (k : Int) ∧ (k : Int) ≤ 9223372036854775807; omega
            · rw [q]; exact hS.2.2.2.2.2.2.2.2.1
          have s1 := hB9.setP (k := s) (j := 0) hs32' (by omega) (.int .u64 sid) ⟨sid, spr, sa, 3, sc⟩ (by rw [hP1]; rfl) ⟨hS.2.2.2.2.2.2.2.1, hS.2.2.2.2.2.2.2.2.1⟩
          have g1 : (P1.set s ⟨sid, spr, sa, 3, sc⟩).getD s pr30 = ⟨sid, spr, sa, 3, sc⟩ := by rw [getD_set3 _ _ _ _ (by omega), if_pos rfl]
          have s2 := s1.setP (k := s) (j := 1) hs32' (by omega) (.int .i64 rr) ⟨sid, rr, sa, 3, sc⟩ (by rw [g1]; rfl) ⟨hS.2.2.2.2.2.2.2.1, hrok⟩
          have g2 : ((P1.set s ⟨sid, spr, sa, 3, sc⟩).set s ⟨sid, rr, sa, 3, sc⟩).getD s pr30 = ⟨sid, rr, sa, 3, sc⟩ := by rw [getD_set3 _ _ _ _ (by rw [List.length_set]; omega), if_pos rfl]
          have s3 := s2.setP (k := s) (j := 2) hs32' (by omega) (.slice sa 3 sc) ⟨sid, rr, sa, 3, sc⟩ (by rw [g2]; rfl) ⟨hS.2.2.2.2.2.2.2.1, hrok⟩
          rw [Nat.add_zero, List.set_set, List.set_set] at s3
          have eq2 : (⟨(P.getD s pr30).id, R.rect (R.know s).id (R.know s).pred k, (P.getD s pr30).a, (P.getD s pr30).len, (P.getD s pr30).cap⟩ : Pr3) = ⟨sid, rr, sa, 3, sc⟩ := by
            rw [HRR.out, hS.2.2.2.2.2.1, hS.2.2.2.2.1, ← hS.1, ← hS.2.1, ← hS.2.2.1, ← hS.2.2.2.1]
          rw [hstr.1, hstr.2.1, hstr.2.2]
          rw [hX, eq2]
          exact s3
        have HE : Hid _ := hfin
        clear hfin HC HB8 HS HRR HRC b0 b1 b2 b3 blt u0 u1 u2 e0 e1 e2
        obtain ⟨b0, b1, b2, b3, blt⟩ := c4_block HE.out.1.box
        obtain ⟨s0, s1, s2, s3, sl⟩ := c4_block HE.out.1.res
        have sf := fz_block HE.out.1.res
        go_wp2
        have hlo := HE.out.1.lo
        have hnn := HE.out.1.o.ne
        have hb := set4_below HE.out.1.bel (p := w.heap.size + 1) (by omega) (.slice (some ⟨gu, 0, none⟩) 32 cu) (.slice (some ⟨gl, 0, none⟩) 32 cl) (.slice (some ⟨gi, 0, none⟩) 32 ci) (.slice (some ⟨gp, 0, none⟩) 32 cp)
        have hv := RfO.toV (HE.out.1.o.kept (w' := set4 X9 (w.heap.size + 1) (.slice (some ⟨gu, 0, none⟩) 32 cu) (.slice (some ⟨gl, 0, none⟩) 32 cl) (.slice (some ⟨gi, 0, none⟩) 32 ci) (.slice (some ⟨gp, 0, none⟩) 32 cp)) (fun g hg => set4_other (by omega) _ _ _ _)) (HE.out.2.set4 (w.heap.size + 1) ⟨by omega, by omega⟩ _ _ _ _)
        unfold set4 at hb hv
        refine bodyPost_ret (v := .tuple #[rfv gu cu gl cl gi ci gp cp, .int .i64 0]) (by simp [results, Tryz.results51, go_sem, rfv, s0, s1, s2, s3]) rfl ⟨_, rfl, hv, hb⟩

theorem rstab_r (R : Rg) (v : Value) (n : Int) (w : World) (h : RfV w R v) (hi : Inv R) :
    Calls Tryz.prog 51 #[v, .int .i64 n] w fun e w' => ∃ v', e = .returned (.tuple #[v', .int .i64 (R.stabC n)]) ∧ RfV w' (R.stab n) v' ∧ Below w.heap.size w w' := by
  cases hn : R.lives n with
  | false =>
    have e1 : R.stabC n = 6 := by simp [Rg.stabC, hn]
    have e2 : R.stab n = R := by simp [Rg.stab, hn]
    rw [e1, e2]
    exact rstab_no R v n w h hi hn
  | true =>
    have e1 : R.stabC n = 0 := by simp [Rg.stabC, hn]
    have h0 := hi.rng _ hn
    obtain ⟨k, rfl⟩ : ∃ k : Nat, n = k := ⟨n.toNat, by omega⟩
    rw [e1]
    exact rstab_yes R v k w h hi hn
end Go.Proofs.YtgiiadjocfnhlabGreatDoor

/- wigwagref10.Round. -/
namespace Go.Proofs.YtgiiadjocfnhlabGreatDoor
open Go.ChangeShapes Go.WideShapes Go.ChangeAt Go.RowKit Go.Deep
set_option linter.unusedVariables false

theorem RfV.shape {w : World} {R : Rg} {v : Value} (h : RfV w R v) : ∃ a0 a1 a2 a3, v = .agg #[a0, a1, a2, a3] ∧ ∃ ua uc la lc ia ic pa pc, a0 = .slice ua 32 uc ∧ a1 = .slice la 32 lc ∧ a2 = .slice ia 32 ic ∧ a3 = .slice pa 32 pc := by
  obtain ⟨ua, uc, la, lc, ia, ic, pa, pc, P, rfl, _⟩ := h.ex
  exact ⟨_, _, _, _, rfl, ua, uc, la, lc, ia, ic, pa, pc, rfl, rfl, rfl, rfl⟩
/-- No row of the document's ring lies where slices lie. -/
theorem InRow.off {α : Type} {k : Nat} {enc : α → List Value} {ok : α → Prop} {d : α} {w w' : World} {a : Option Addr} {n : Nat} {zs : List α} (h : InRow k enc ok d w a n zs) (hk : 0 < k) (hns : ∀ x : α, ∃ u, (enc x)[0]? = some u ∧ ∀ a n c, u ≠ .slice a n c) (hs : w.heap.size ≤ w'.heap.size) (hoff : ∀ b x v, w.cell? ⟨b, x, none⟩ = some v → (∀ a n c, v ≠ .slice a n c) → w'.heap[b]? = w.heap[b]?) : InRow k enc ok d w' a n zs := by
  refine ⟨h.1, h.2.1, ?_⟩
  rcases h.2.2 with h0 | ⟨b, o, ha, hlt, hc⟩
  · exact .inl h0
  · by_cases h0 : n = 0
    · exact .inl h0
    obtain ⟨u, hu, hus⟩ := hns (zs.getD 0 d)
    have e := (hc 0 (by omega)).2 0 hk
    rw [hu] at e
    have hb := hoff b _ u e hus
    exact .inr ⟨b, o, ha, Nat.lt_of_lt_of_le hlt hs, fun i hi => ⟨(hc i hi).1, fun j hj => (World.cell?_of_block (a := ⟨b, o + i * k + j, none⟩) hb).trans ((hc i hi).2 j hj)⟩⟩
theorem RfV.off {w w' : World} {R : Rg} {v : Value} (h : RfV w R v) (hs : w.heap.size ≤ w'.heap.size) (hoff : ∀ b x v, w.cell? ⟨b, x, none⟩ = some v → (∀ a n c, v ≠ .slice a n c) → w'.heap[b]? = w.heap[b]?) : RfV w' R v := by
  obtain ⟨ua, uc, la, lc, ia, ic, pa, pc, P, e, h1, h2, h3, h4, h5⟩ := h.ex
  have nB : ∀ x : Bool, ∃ u, (encB x)[0]? = some u ∧ ∀ a n c, u ≠ .slice a n c := fun x => ⟨_, rfl, fun _ _ _ q => by cases q⟩
  have nU : ∀ x : Int, ∃ u, (encU x)[0]? = some u ∧ ∀ a n c, u ≠ .slice a n c := fun x => ⟨_, rfl, fun _ _ _ q => by cases q⟩
  have nI : ∀ x : Int, ∃ u, (encI x)[0]? = some u ∧ ∀ a n c, u ≠ .slice a n c := fun x => ⟨_, rfl, fun _ _ _ q => by cases q⟩
  have nP : ∀ x : Pr3, ∃ u, (x.cells)[0]? = some u ∧ ∀ a n c, u ≠ .slice a n c := fun x => ⟨_, rfl, fun _ _ _ q => by cases q⟩
  exact ⟨ua, uc, la, lc, ia, ic, pa, pc, P, e, h1.off (by omega) nB hs hoff, h2.off (by omega) nB hs hoff, h3.off (by omega) nU hs hoff, h4.off (by omega) nP hs hoff, fun k hk x hx =>
    have q := h5 k hk x hx
    ⟨q.1, q.2.1, q.2.2.hid, q.2.2.hpred, q.2.2.row.off (by omega) nI hs hoff, q.2.2.hcap, q.2.2.hmost, q.2.2.hnil⟩⟩
theorem off_set4 {w : World} {p : Nat} {c0 c1 c2 c3 : Value} {t : TypeId} (h : w.heap[p]? = some (.cells #[c0, c1, c2, c3] t (0, 0))) (h0 : ∃ a n c, c0 = .slice a n c) (h1 : ∃ a n c, c1 = .slice a n c) (h2 : ∃ a n c, c2 = .slice a n c) (h3 : ∃ a n c, c3 = .slice a n c) (v0 v1 v2 v3 : Value) :
    ∀ b x v, w.cell? ⟨b, x, none⟩ = some v → (∀ a n c, v ≠ .slice a n c) → (set4 w p v0 v1 v2 v3).heap[b]? = w.heap[b]? := by
  intro b x v hc hv
  by_cases e : b = p
  · subst e
    exfalso
    obtain ⟨a0, n0, d0, rfl⟩ := h0
    obtain ⟨a1, n1, d1, rfl⟩ := h1
    obtain ⟨a2, n2, d2, rfl⟩ := h2
    obtain ⟨a3, n3, d3, rfl⟩ := h3
    have hx : x < 4 := by
      rcases Nat.lt_or_ge x 4 with q | q
      · exact q
      · simp [World.cell?, h] at hc
        rw [List.getElem?_eq_none (by simpa using q)] at hc
        cases hc
    have : x = 0 ∨ x = 1 ∨ x = 2 ∨ x = 3 := by omega
    rcases this with rfl | rfl | rfl | rfl <;> (simp [World.cell?, h] at hc; exact hv _ _ _ hc.symm)
  · exact set4_other e _ _ _ _
def foldStab (R : Rg) (l : List Int) (j : Nat) : Rg := (l.take j).foldl (fun R n => R.stab n) R
theorem foldStab_succ (R : Rg) (l : List Int) (j : Nat) (hj : j < l.length) : foldStab R l (j + 1) = (foldStab R l j).stab (l.getD j 0) := by
  unfold foldStab
  rw [List.take_succ_eq_append_getElem hj, List.foldl_append]
  simp [List.getD, hj]
theorem foldStab_all (R : Rg) : foldStab R R.live R.live.length = R.round := by unfold foldStab Rg.round; rw [List.take_length]
theorem foldStab_inv {R : Rg} (h : Inv R) (l : List Int) (j : Nat) : Inv (foldStab R l j) := h.foldS _

set_option maxRecDepth 100000 in
set_option maxHeartbeats 4000000 in
theorem rround_r (R : Rg) (v : Value) (w : World) (h : RfV w R v) (hi : Inv R) :
    Calls Tryz.prog 52 #[v] w fun e w' => ∃ v', e = .returned v' ∧ RfV w' R.round v' ∧ Below w.heap.size w w' := by
  have HV : Hid (RfV w R v ∧ Inv R) := ⟨h, hi⟩
  obtain ⟨ua, uc, la, lc, ia, ic, pa, pc, P, rfl, _⟩ := h.ex
  clear h hi
  obtain ⟨W1, hW1⟩ : ∃ W1, W1 = (w.alloc (.cells #[.slice ua 32 uc, .slice la 32 lc, .slice ia 32 ic, .slice pa 32 pc] 34)).alloc (.cells #[.slice none 0 0, .slice none 0 0, .slice none 0 0, .slice none 0 0] 34) := ⟨_, rfl⟩
  have H1 : Hid (RfI w W1 (.slice ua 32 uc) (.bool true) (.slice la 32 lc) (.bool true) (.slice ia 32 ic) (.bool true) (.slice pa 32 pc) (.bool true)) := by rw [hW1]; exact RfI.start w _ _ _ _ _
  obtain ⟨r0, r1, r2, r3, rl⟩ := c4_block H1.out.box
  go_enter Tryz.func52, Tryz.ntmps52
  go_upto_region 1 with fail
  rw [← hW1]
  clear hW1
  go_wp2_with fail
  refine (rlive_r R _ _ (HV.out.1.below H1.out.bel)).mono ?_
  rintro e w2 ⟨a, c, rfl, hin, hnew, hb2⟩
  have hl32 : R.live.length ≤ 32 := liveTo_len R 32
  obtain ⟨nL, hnL⟩ : ∃ nL, nL = R.live.length := ⟨_, rfl⟩
  rw [← hnL] at hin hl32 ⊢
  have HNL : Hid (nL = R.live.length) := hnL
  have HLI : Hid (InIn w2 a nL R.live ∧ (∀ x, a = some x → W1.heap.size ≤ x.block) ∧ W1.heap.size ≤ w2.heap.size ∧ w.heap.size + 1 < W1.heap.size) := ⟨hin, hnew, hb2.size, lt_of_block H1.out.res⟩
  have H2 : Hid (RfI w w2 (.slice ua 32 uc) (.bool true) (.slice la 32 lc) (.bool true) (.slice ia 32 ic) (.bool true) (.slice pa 32 pc) (.bool true)) := H1.out.below hb2
  clear r0 r1 r2 r3 rl H1 hin hnew hb2 hnL
  go_wp2
  go_loopg [10] nL (fun kx s wr => ∃ j : Nat, s = .int .i64 j ∧ j ≤ nL ∧ kx = nL - j ∧ ∃ x0 x1 x2 x3, Hid (RfI w wr x0 (.bool true) x1 (.bool true) x2 (.bool true) x3 (.bool true) ∧ RfV wr (foldStab R R.live j) (.agg #[x0, x1, x2, x3]) ∧ InIn wr a nL R.live))
  case atStart => exact ⟨0, rfl, Nat.zero_le _, rfl, _, _, _, _, (⟨H2.out, HV.out.1.below H2.out.bel, HLI.out.1⟩ : RfI _ _ _ _ _ _ _ _ _ _ ∧ RfV _ _ _ ∧ _)⟩
  case round =>
    obtain ⟨j, rfl, hj, rfl, x0, x1, x2, x3, H⟩ := hrel
    clear H2
    obtain ⟨r0, r1, r2, r3, rl⟩ := c4_block H.out.1.box
    have rf := fz_block H.out.1.box
    obtain ⟨xa0, xa1, xa2, xa3, hsh, ya, yb, yc, yd, ye, yf, yg, yh, e0, e1, e2, e3⟩ := H.out.2.1.shape
    simp only [Value.agg.injEq, Array.mk.injEq, List.cons.injEq, and_true] at hsh
    obtain ⟨hs0, hs1, hs2, hs3⟩ := hsh
    rw [← hs0] at e0
    rw [← hs1] at e1
    rw [← hs2] at e2
    rw [← hs3] at e3
    subst e0 e1 e2 e3
    clear hs0 hs1 hs2 hs3
    by_cases hlt : j < nL
    · have hj0 : (0 : Int) ≤ (j : Int) := Int.natCast_nonneg _
      have hj1 : (j : Int) < (nL : Int) := by omega
      obtain ⟨b, o, ha, hb, hx, hc⟩ := H.out.2.2.one (v := Value.int .i64) (fun _ => rfl) (i := j) hlt
      subst ha
      have HS : Hid (foldStab R R.live (j + 1) = (foldStab R R.live j).stab (R.live.getD j 0)) := foldStab_succ R R.live j (by have := HNL.out; omega)
      generalize R.live.getD j 0 = m at hx hc HS
      obtain ⟨Rj, hRj⟩ : ∃ Rj, Rj = foldStab R R.live j := ⟨_, rfl⟩
      have HRj : Hid (Rj = foldStab R R.live j ∧ Inv Rj) := ⟨hRj, by rw [hRj]; exact foldStab_inv HV.out.2 _ _⟩
      have HVj : Hid (RfV wr Rj (.agg #[.slice ya 32 yb, .slice yc 32 yd, .slice ye 32 yf, .slice yg 32 yh])) := by rw [hRj]; exact H.out.2.1
      clear hRj
      go_wp2_with fail
      refine (rstab_r Rj _ m wr HVj.out HRj.out.2).mono ?_
      rintro e w4 ⟨v4, rfl, hv4, hb4⟩
      obtain ⟨z0, z1, z2, z3, hsh, za, zb, zc, zd, ze, zf, zg, zh, q0, q1, q2, q3⟩ := hv4.shape
      subst q0 q1 q2 q3
      subst hsh
      generalize Rj.stabC m = cc
      have H4 := H.out.1.below hb4
      clear r0 r1 r2 r3 rl rf
      obtain ⟨r0, r1, r2, r3, rl⟩ := c4_block H4.box
      have rf := fz_block H4.box
      have rz : w.heap.size < w4.heap.size := rl
      have hbl : b < wr.heap.size := hb
      have HX : Hid (RfI w w4 (.slice ya 32 yb) (.bool true) (.slice yc 32 yd) (.bool true) (.slice ye 32 yf) (.bool true) (.slice yg 32 yh) (.bool true) ∧ RfV w4 (foldStab R R.live (j + 1)) (.agg #[.slice za 32 zb, .slice zc 32 zd, .slice ze 32 zf, .slice zg 32 zh]) ∧ InIn w4 (some ⟨b, o, none⟩) nL R.live) := ⟨H4, by rw [HS.out, ← HRj.out.1]; exact hv4, H.out.2.2.below (Nat.le_refl _) hb4⟩
      have H5 : Hid (RfI w ((set4 w4 w.heap.size (.slice za 32 zb) (.slice zc 32 zd) (.slice ze 32 zf) (.slice zg 32 zh)).alloc (.cells #[.slice za 32 zb, .slice zc 32 zd, .slice ze 32 zf, .slice zg 32 zh] 34)) (.slice za 32 zb) (.bool true) (.slice zc 32 zd) (.bool true) (.slice ze 32 zf) (.bool true) (.slice zg 32 zh) (.bool true) ∧ RfV ((set4 w4 w.heap.size (.slice za 32 zb) (.slice zc 32 zd) (.slice ze 32 zf) (.slice zg 32 zh)).alloc (.cells #[.slice za 32 zb, .slice zc 32 zd, .slice ze 32 zf, .slice zg 32 zh] 34)) (foldStab R R.live (j + 1)) (.agg #[.slice za 32 zb, .slice zc 32 zd, .slice ze 32 zf, .slice zg 32 zh]) ∧ InIn ((set4 w4 w.heap.size (.slice za 32 zb) (.slice zc 32 zd) (.slice ze 32 zf) (.slice zg 32 zh)).alloc (.cells #[.slice za 32 zb, .slice zc 32 zd, .slice ze 32 zf, .slice zg 32 zh] 34)) (some ⟨b, o, none⟩) nL R.live) := by
        obtain ⟨hI, hV, hL⟩ := HX.out
        have hoff := off_set4 hI.box ⟨_, _, _, rfl⟩ ⟨_, _, _, rfl⟩ ⟨_, _, _, rfl⟩ ⟨_, _, _, rfl⟩ (.slice za 32 zb) (.slice zc 32 zd) (.slice ze 32 zf) (.slice zg 32 zh)
        have hsz : w4.heap.size ≤ (set4 w4 w.heap.size (.slice za 32 zb) (.slice zc 32 zd) (.slice ze 32 zf) (.slice zg 32 zh)).heap.size := by rw [set4_size]; exact Nat.le_refl _
        have hI2 : RfI w (set4 w4 w.heap.size (.slice za 32 zb) (.slice zc 32 zd) (.slice ze 32 zf) (.slice zg 32 zh)) (.slice za 32 zb) (.bool true) (.slice zc 32 zd) (.bool true) (.slice ze 32 zf) (.bool true) (.slice zg 32 zh) (.bool true) := ⟨set4_box hI.box _ _ _ _, (set4_other (by omega) _ _ _ _).trans hI.res, set4_below hI.bel (Nat.le_refl _) _ _ _ _⟩
        exact ⟨hI2.below (below_one _ _), (hV.off hsz hoff).below (below_one _ _), (hL.off (by omega) (fun x => ⟨_, rfl, fun _ _ _ q => by cases q⟩) hsz hoff).below (Nat.le_refl _) (below_one _ _)⟩
      clear H4 hv4 hb4 H HVj hc hx HX
      go_wp2
      go_roundg (nL - (j + 1))
      case measure => omega
      case rel => exact ⟨j + 1, by go_num, by omega, rfl, _, _, _, _, H5⟩
    · have hj1 : ¬ (j : Int) < (nL : Int) := by omega
      obtain rfl : j = nL := by omega
      obtain ⟨s0, s1, s2, s3, sl⟩ := c4_block H.out.1.res
      have sf := fz_block H.out.1.res
      have HX : Hid (RfV wr R.round (.agg #[.slice ya 32 yb, .slice yc 32 yd, .slice ye 32 yf, .slice yg 32 yh]) ∧ Below w.heap.size w wr ∧ RfI w wr (.slice ya 32 yb) (.bool true) (.slice yc 32 yd) (.bool true) (.slice ye 32 yf) (.bool true) (.slice yg 32 yh) (.bool true)) := ⟨by rw [← foldStab_all, ← HNL.out]; exact H.out.2.1, H.out.1.bel, H.out.1⟩
      clear H HLI HNL
      go_wp2
      have hoff := off_set4 HX.out.2.2.res ⟨_, _, _, rfl⟩ ⟨_, _, _, rfl⟩ ⟨_, _, _, rfl⟩ ⟨_, _, _, rfl⟩ (.slice ya 32 yb) (.slice yc 32 yd) (.slice ye 32 yf) (.slice yg 32 yh)
      have hv := HX.out.1.off (by rw [set4_size]; exact Nat.le_refl _) hoff
      have hb := set4_below HX.out.2.1 (p := w.heap.size + 1) (by omega) (.slice ya 32 yb) (.slice yc 32 yd) (.slice ye 32 yf) (.slice yg 32 yh)
      unfold set4 at hv hb
      refine bodyPost_ret (v := .agg #[.slice ya 32 yb, .slice yc 32 yd, .slice ye 32 yf, .slice yg 32 yh]) (by simp [results, Tryz.results52, go_sem, s0, s1, s2, s3]) rfl ⟨_, rfl, hv, hb⟩
end Go.Proofs.YtgiiadjocfnhlabGreatDoor

/- wigwagref10.Fail. -/
namespace Go.Proofs.YtgiiadjocfnhlabGreatDoor
open Go.ChangeShapes Go.WideShapes Go.ChangeAt Go.RowKit Go.Deep
set_option linter.unusedVariables false

theorem livesB_rng {R : Rg} (h : ∀ n, R.lives n = true → 0 ≤ n ∧ n < 32) (n : Int) : livesB (lvL R) n = R.lives n := by
  by_cases n0 : n < 0
  · rw [lives_neg n0]
    cases hl : R.lives n
    · rfl
    · have := h n hl; omega
  · by_cases nk : n < 32
    · rw [lives_at (by omega), lvL_getD R (by omega)]
      congr 1; omega
    · rw [lives_out (by simp [lvL]; omega)]
      cases hl : R.lives n
      · rfl
      · have := h n hl; omega
theorem headI_rng {R : Rg} (h : ∀ n, R.lives n = true → 0 ≤ n ∧ n < 32) (l : List Int) : headI (lvL R) l = headF R.lives l := by
  induction l with
  | nil => rfl
  | cons a l ih => simp only [headI, headF, livesB_rng h, ih]
theorem headF_neg {R : Rg} (h : ∀ n, R.lives n = true → 0 ≤ n ∧ n < 32) (l : List Int) : headF R.lives l < 0 ↔ headF R.lives l = -1 := by
  rcases head_lv R.lives l with q | q
  · rw [q]; omega
  · have := h _ q; omega
theorem delK_rng {R : Rg} (h : Inv R) (n : Int) : ∀ x, (R.delK n).lives x = true → 0 ≤ x ∧ x < 32 := fun x hx => by
  rw [lives_delK] at hx
  split at hx
  · cases hx
  · exact h.rng x hx
theorem delK_know {R : Rg} {n m : Int} (h : m ≠ n) : (R.delK n).know m = R.know m := by simp [Rg.know, Rg.delK, upd, h]
theorem needed_del {R : Rg} (h : Inv R) (n : Int) : R.needed n = true ↔ ∃ m ∈ (R.delK n).live, headF (R.delK n).lives ((R.delK n).know m).succ = -1 := by
  have hf : (fun x => x != -1 && (x != n && R.lives x)) = (R.delK n).lives := by
    funext x
    rw [lives_delK]
    by_cases e : x = n
    · simp [e]
    · rw [if_neg e]
      have e1 : (x != n) = true := by simpa using e
      cases hl : R.lives x
      · simp
      · have := h.rng x hl
        have e2 : (x != -1) = true := by simp; omega
        simp [e1, e2]
  unfold Rg.needed anyF
  rw [List.any_eq_true]
  constructor
  · rintro ⟨m, hm, hl⟩
    unfold Rg.lone at hl
    rw [hf] at hl
    simp only [Bool.and_eq_true, bne_iff_ne, ne_eq, beq_iff_eq] at hl
    have hm' := (mem_live R m).1 hm
    refine ⟨m, (mem_live _ m).2 ⟨hm'.1, hm'.2.1, by rw [lives_delK, if_neg hl.1]; exact hm'.2.2⟩, by rw [delK_know hl.1]; exact hl.2⟩
  · rintro ⟨m, hm, hl⟩
    have hm' := (mem_live _ m).1 hm
    rw [lives_delK] at hm'
    have hne : m ≠ n := fun e => by rw [if_pos e] at hm'; cases hm'.2.2
    rw [if_neg hne] at hm'
    refine ⟨m, (mem_live R m).2 hm', ?_⟩
    unfold Rg.lone
    rw [hf, ← delK_know hne, hl]
    simpa using hne
theorem del_rows (R : Rg) {k : Nat} (hk : k < 32) : usL (R.delK k) = usL R ∧ lvL (R.delK k) = (lvL R).set k false ∧ idL (R.delK k) = idL R := by
  refine ⟨rfl, ?_, rfl⟩
  apply List.ext_getElem?
  intro j
  rw [List.getElem?_set]
  unfold lvL
  rw [List.getElem?_map, List.getElem?_map]
  by_cases hj : j < 32
  · by_cases e : k = j
    · subst e; simp [hk, lives_delK]
    · rw [if_neg e]
      have : (j : Int) ≠ (k : Int) := by omega
      simp [hj, lives_delK, this]
  · have e : k ≠ j := by omega
    rw [if_neg e]
    simp [List.getElem?_eq_none (show (List.range 32).length ≤ j by simp; omega)]
theorem KnP.del {X : World} {B gp : Nat} {R : Rg} {P : List Pr3} (h : KnP X B gp R P) (n : Int) : KnP X B gp (R.delK n) P := fun k hk x hx => by
  refine h k hk x ?_
  simp only [Rg.delK, upd] at hx
  split at hx
  · cases hx
  · exact hx
theorem bl_set (L : List Bool) (k : Nat) (b : Bool) : (bl L).set k (.bool b) = bl (L.set k b) := by simp [bl, List.map_set]
theorem ul_set (L : List Int) (k : Nat) (b : Int) : (ul L).set k (.int .u64 b) = ul (L.set k b) := by simp [ul, List.map_set]
theorem RfO.setL {B : Nat} {w : World} {gu cu gl cl gi ci gp cp : Nat} {U L : List Bool} {I : List Int} {P : List Pr3} (h : RfO B w gu cu gl cl gi ci gp cp U L I P) (k : Nat) (b : Bool) : RfO B (w.setCell ⟨gl, k, none⟩ (.bool b)) gu cu gl cl gi ci gp cp U (L.set k b) I P := by
  have hn := h.ne
  have hs := (h.l.stored k (.bool b)).1
  rw [bl_set] at hs
  have ho : ∀ g, g ≠ gl → (w.setCell ⟨gl, k, none⟩ (.bool b)).heap[g]? = w.heap[g]? := fun g hg => Below.heap_setCell _ _ _ _ (by simpa using hg)
  refine ⟨row_kept h.u (fun g hg => ?_), hs, row_kept h.i (fun g hg => ?_), row_kept h.p (fun g hg => ?_), h.ne, h.ok⟩ <;> (simp [Value.ownBlock] at hg; exact ho g (by omega))
theorem RfO.setU {B : Nat} {w : World} {gu cu gl cl gi ci gp cp : Nat} {U L : List Bool} {I : List Int} {P : List Pr3} (h : RfO B w gu cu gl cl gi ci gp cp U L I P) (k : Nat) (b : Bool) : RfO B (w.setCell ⟨gu, k, none⟩ (.bool b)) gu cu gl cl gi ci gp cp (U.set k b) L I P := by
  have hn := h.ne
  have hs := (h.u.stored k (.bool b)).1
  rw [bl_set] at hs
  have ho : ∀ g, g ≠ gu → (w.setCell ⟨gu, k, none⟩ (.bool b)).heap[g]? = w.heap[g]? := fun g hg => Below.heap_setCell _ _ _ _ (by simpa using hg)
  refine ⟨hs, row_kept h.l (fun g hg => ?_), row_kept h.i (fun g hg => ?_), row_kept h.p (fun g hg => ?_), h.ne, h.ok⟩ <;> (simp [Value.ownBlock] at hg; exact ho g (by omega))
theorem RfO.setI {B : Nat} {w : World} {gu cu gl cl gi ci gp cp : Nat} {U L : List Bool} {I : List Int} {P : List Pr3} (h : RfO B w gu cu gl cl gi ci gp cp U L I P) (k : Nat) (b : Int) (hb : u64 b) : RfO B (w.setCell ⟨gi, k, none⟩ (.int .u64 b)) gu cu gl cl gi ci gp cp U L (I.set k b) P := by
  have hn := h.ne
  have hs := (h.i.stored k (.int .u64 b)).1
  rw [ul_set] at hs
  have ho : ∀ g, g ≠ gi → (w.setCell ⟨gi, k, none⟩ (.int .u64 b)).heap[g]? = w.heap[g]? := fun g hg => Below.heap_setCell _ _ _ _ (by simpa using hg)
  refine ⟨row_kept h.u (fun g hg => ?_), row_kept h.l (fun g hg => ?_), hs, row_kept h.p (fun g hg => ?_), h.ne, fun x hx => ?_, h.ok.2⟩
  · simp [Value.ownBlock] at hg; exact ho g (by omega)
  · simp [Value.ownBlock] at hg; exact ho g (by omega)
  · simp [Value.ownBlock] at hg; exact ho g (by omega)
  · rcases List.mem_or_eq_of_mem_set hx with r | r
    · exact h.ok.1 x r
    · rw [r]; exact hb
/-- Two boxes, and a ring of the document's that one of them shows. -/
theorem ans4 {w W : World} {R : Rg} {a0 a1 a2 a3 : Value} {t : TypeId} {c0 c1 c2 c3 : Value} (hv : RfV W R (.agg #[a0, a1, a2, a3])) (hb : Below w.heap.size w W) (hres : W.heap[w.heap.size + 1]? = some (.cells #[c0, c1, c2, c3] t (0, 0))) (h0 : ∃ a n c, c0 = .slice a n c) (h1 : ∃ a n c, c1 = .slice a n c) (h2 : ∃ a n c, c2 = .slice a n c) (h3 : ∃ a n c, c3 = .slice a n c) :
    RfV ((((W.setCell ⟨w.heap.size + 1, 0, none⟩ a0).setCell ⟨w.heap.size + 1, 1, none⟩ a1).setCell ⟨w.heap.size + 1, 2, none⟩ a2).setCell ⟨w.heap.size + 1, 3, none⟩ a3) R (.agg #[a0, a1, a2, a3]) ∧ Below w.heap.size w ((((W.setCell ⟨w.heap.size + 1, 0, none⟩ a0).setCell ⟨w.heap.size + 1, 1, none⟩ a1).setCell ⟨w.heap.size + 1, 2, none⟩ a2).setCell ⟨w.heap.size + 1, 3, none⟩ a3) :=
  ⟨hv.off (w' := set4 W (w.heap.size + 1) a0 a1 a2 a3) (by rw [set4_size]; exact Nat.le_refl _) (off_set4 hres h0 h1 h2 h3 a0 a1 a2 a3), set4_below hb (p := w.heap.size + 1) (by omega) a0 a1 a2 a3⟩

set_option maxRecDepth 100000 in
set_option maxHeartbeats 8000000 in
theorem rfail_r (R : Rg) (v : Value) (n : Int) (w : World) (h : RfV w R v) (hi : Inv R) :
    Calls Tryz.prog 50 #[v, .int .i64 n] w fun e w' => ∃ v', e = .returned (.tuple #[v', .int .i64 (R.failC n)]) ∧ RfV w' (R.fail n) v' ∧ Below w.heap.size w w' := by
  have HV : Hid (RfV w R v ∧ Inv R) := ⟨h, hi⟩
  obtain ⟨ua, uc, la, lc, ia, ic, pa, pc, P, rfl, h1, h2, h3, h4, h5⟩ := h.ex
  have HIN : Hid (LvIn w ua 32 (usL R) ∧ LvIn w la 32 (lvL R) ∧ IdIn w ia 32 (idL R) ∧ InRow 3 Pr3.cells Pr3.ok pr30 w pa 32 P ∧ ∀ j : Nat, j < 32 → PrOk w (R.kn j) (P.getD j pr30)) := ⟨h1, h2, h3, h4, h5⟩
  obtain ⟨bl0, hbl0⟩ : ∃ b, b = R.lives n := ⟨_, rfl⟩
  have HW : Hid (RfW w (lvL R) (idL R) (.agg #[.slice la 32 lc, .slice ia 32 ic]) ∧ livesB (lvL R) n = bl0 ∧ bl0 = R.lives n) := ⟨⟨la, 32, lc, ia, 32, ic, rfl, h2, h3⟩, by rw [livesB_R hi, hbl0], hbl0⟩
  clear h h1 h2 h3 h4 h5 hi hbl0
  obtain ⟨W1, hW1⟩ : ∃ W1, W1 = (w.alloc (.cells #[.slice ua 32 uc, .slice la 32 lc, .slice ia 32 ic, .slice pa 32 pc] 34)).alloc (.cells #[.slice none 0 0, .slice none 0 0, .slice none 0 0, .slice none 0 0] 34) := ⟨_, rfl⟩
  have H1 : Hid (RfI w W1 (.slice ua 32 uc) (.bool true) (.slice la 32 lc) (.bool true) (.slice ia 32 ic) (.bool true) (.slice pa 32 pc) (.bool true)) := by rw [hW1]; exact RfI.start w _ _ _ _ _
  obtain ⟨r0, r1, r2, r3, rl⟩ := c4_block H1.out.box
  go_enter Tryz.func50, Tryz.ntmps50
  go_upto_region 1 with fail
  rw [← hW1]
  clear hW1
  go_wp2_with fail
  refine (rlives_r _ _ _ _ _ (HW.out.1.below H1.out.bel)).mono ?_
  rintro e w2 ⟨rfl, hb2⟩
  rw [HW.out.2.1]
  have H2 : Hid (RfI w w2 (.slice ua 32 uc) (.bool true) (.slice la 32 lc) (.bool true) (.slice ia 32 ic) (.bool true) (.slice pa 32 pc) (.bool true)) := H1.out.below hb2
  clear r0 r1 r2 r3 rl H1 hb2
  obtain ⟨r0, r1, r2, r3, rl⟩ := c4_block H2.out.box
  obtain ⟨s0, s1, s2, s3, sl⟩ := c4_block H2.out.res
  have sf := fz_block H2.out.res
  have hv2 := HV.out.1.below H2.out.bel
  have ha := ans4 hv2 H2.out.bel H2.out.res ⟨_, _, _, rfl⟩ ⟨_, _, _, rfl⟩ ⟨_, _, _, rfl⟩ ⟨_, _, _, rfl⟩
  have HA : Hid _ := ha
  clear ha hv2
  cases bl0
  · have E : Hid (R.failC n = 6 ∧ R.fail n = R) := (by have := HW.out.2.2; simp [Rg.failC, Rg.fail, ← this] : R.failC n = 6 ∧ R.fail n = R)
    go_wp2
    refine bodyPost_ret (v := .tuple #[.agg #[.slice ua 32 uc, .slice la 32 lc, .slice ia 32 ic, .slice pa 32 pc], .int .i64 6]) (by simp [results, Tryz.results50, go_sem, s0, s1, s2, s3]) rfl ⟨_, by rw [E.out.1], by rw [E.out.2]; exact HA.out.1, HA.out.2⟩
  · have hlv : R.lives n = true := HW.out.2.2.symm
    have hr := HV.out.2.rng n hlv
    obtain ⟨k, hk⟩ : ∃ k : Nat, n = k := ⟨n.toNat, by omega⟩
    subst hk
    have hk32 : k < 32 := by omega
    have hkI : (0 : Int) ≤ (k : Int) ∧ (k : Int) < 32 := by omega
    have HLV : Hid (R.lives k = true) := hlv
    clear hlv hr
    by_cases h4 : (k : Int) < 4
    · have E : Hid (R.failC k = 5 ∧ R.fail k = R) := (by have := HLV.out; simp [Rg.failC, Rg.fail, this, h4] : R.failC k = 5 ∧ R.fail k = R)
      go_wp2
      refine bodyPost_ret (v := .tuple #[.agg #[.slice ua 32 uc, .slice la 32 lc, .slice ia 32 ic, .slice pa 32 pc], .int .i64 5]) (by simp [results, Tryz.results50, go_sem, s0, s1, s2, s3]) rfl ⟨_, by rw [E.out.1], by rw [E.out.2]; exact HA.out.1, HA.out.2⟩
    · have bl2 : Hid (Below w.heap.size w w2) := H2.out.bel
      go_wp2_with fail
      refine (rcopy_r ua la ia pa uc lc ic pc (usL R) (lvL R) (idL R) P w2 (HIN.out.1.below (Nat.le_refl _) bl2.out) (HIN.out.2.1.below (Nat.le_refl _) bl2.out) (HIN.out.2.2.1.below (Nat.le_refl _) bl2.out) (HIN.out.2.2.2.1.below (Nat.le_refl _) bl2.out)).mono ?_
      rintro e w3 ⟨gu, cu, gl, cl, gi, ci, gp, cp, rfl, ho3, hb3⟩
      unfold rfv
      -- the copy's box, and the member is gone
      obtain ⟨X4, hX4⟩ : ∃ X4, X4 = (w3.setCell ⟨gl, k, none⟩ (.bool false)).alloc (.cells #[.slice (some ⟨gu, 0, none⟩) 32 cu, .slice (some ⟨gl, 0, none⟩) 32 cl, .slice (some ⟨gi, 0, none⟩) 32 ci, .slice (some ⟨gp, 0, none⟩) 32 cp] 34) := ⟨_, rfl⟩
      have f0 := (ho3.fz k).2.1
      have c0 : w3.cell? ⟨gl, k, none⟩ = some (.bool ((lvL R).getD k false)) := by
        obtain ⟨b, o, hh, _, _, hc⟩ := (own_inB ho3.l).one (v := Value.bool) (fun _ => rfl) (i := k) hk32
        simp only [Option.some.injEq, Addr.mk.injEq, and_true] at hh
        obtain ⟨rfl, rfl⟩ := hh
        simpa using hc
      have hglt := ho3.lt
      have hne := ho3.ne
      have hgu2 := (ho3.u.lt gu rfl).1
      have hrow := del_rows R hk32
      have H4 : Hid (RfO w2.heap.size X4 gu cu gl cl gi ci gp cp (usL (R.delK k)) (lvL (R.delK k)) (idL (R.delK k)) P ∧ KnP X4 w2.heap.size gp (R.delK k) P ∧ X4.heap[w3.heap.size]? = some (.cells #[.slice (some ⟨gu, 0, none⟩) 32 cu, .slice (some ⟨gl, 0, none⟩) 32 cl, .slice (some ⟨gi, 0, none⟩) 32 ci, .slice (some ⟨gp, 0, none⟩) 32 cp] 34 (0, 0)) ∧ RfI w X4 (.slice ua 32 uc) (.bool true) (.slice la 32 lc) (.bool true) (.slice ia 32 ic) (.bool true) (.slice pa 32 pc) (.bool true) ∧ RfV X4 R (.agg #[.slice ua 32 uc, .slice la 32 lc, .slice ia 32 ic, .slice pa 32 pc]) ∧ w3.heap.size < X4.heap.size ∧ w.heap.size + 1 < w2.heap.size ∧ gp < w3.heap.size) := by
        have hbs : Below w2.heap.size w2 (w3.setCell ⟨gl, k, none⟩ (.bool false)) := hb3.setCell (by show w2.heap.size ≤ gl; omega) _
        have hb4 : Below w2.heap.size w2 X4 := by rw [hX4]; exact below_alloc hbs hbs.size _
        have hr1 := hrow.1; have hr2 := hrow.2.1; have hr3 := hrow.2.2
        refine ⟨?_, ?_, ?_, H2.out.below hb4, (HV.out.1.below H2.out.bel).below hb4, ?_, lt_of_block H2.out.res, hglt.2.2.2⟩
        · rw [hr1, hr2, hr3, hX4]; exact (ho3.setL k false).below (below_one _ _)
        · have hK : KnP w2 w2.heap.size gp R P := by
            intro j hj x hx
            have q := HIN.out.2.2.2.2 j hj x hx
            refine ⟨q.1, q.2.1, q.2.2.below (Nat.le_refl _) bl2.out, fun z hz => .inl ?_⟩
            have hl := HV.out.2.lens j x hx
            rcases q.2.2.row.2.2 with q' | ⟨b, o, ha, hlt, _⟩
            · have := q.2.2.row.1; omega
            · rw [ha] at hz; cases hz; exact Nat.lt_of_lt_of_le hlt bl2.out.size
          exact (hK.below hb4).del k
        · rw [hX4]
          have := heap_alloc_new (w3.setCell ⟨gl, k, none⟩ (.bool false)) (.cells #[.slice (some ⟨gu, 0, none⟩) 32 cu, .slice (some ⟨gl, 0, none⟩) 32 cl, .slice (some ⟨gi, 0, none⟩) 32 ci, .slice (some ⟨gp, 0, none⟩) 32 cp] 34)
          simpa [World.setCell] using this
        · rw [hX4]; simp [World.setCell]
      clear HA s0 s1 s2 s3 sl sf r0 r1 r2 r3 rl ho3 hb3 hrow hgu2 bl2 HIN HW H2
      go_upto_region 7 with fail
      rw [← hX4]
      clear hX4 f0 c0
      obtain ⟨D, hD⟩ : ∃ D, D = R.delK k := ⟨_, rfl⟩
      rw [← hD] at H4
      have HD : Hid (D = R.delK k ∧ (∀ x, D.lives x = true → 0 ≤ x ∧ x < 32)) := ⟨hD, by rw [hD]; exact delK_rng HV.out.2 _⟩
      clear hD
      have HVD : Hid (RfV X4 D (.agg #[.slice (some ⟨gu, 0, none⟩) 32 cu, .slice (some ⟨gl, 0, none⟩) 32 cl, .slice (some ⟨gi, 0, none⟩) 32 ci, .slice (some ⟨gp, 0, none⟩) 32 cp])) := RfO.toV H4.out.1 H4.out.2.1
      obtain ⟨o0, o1, o2, o3, ol⟩ := c4_block H4.out.2.2.1
      go_wp2_with fail
      refine (rlive_r D _ _ HVD.out).mono ?_
      rintro e w5 ⟨a, c, rfl, hin, hnew, hb5⟩
      have hl32 : D.live.length ≤ 32 := liveTo_len D 32
      obtain ⟨nL, hnL⟩ : ∃ nL, nL = D.live.length := ⟨_, rfl⟩
      rw [← hnL] at hin hl32 ⊢
      have HNL : Hid (nL = D.live.length) := hnL
      have H5 : Hid (Below X4.heap.size X4 w5 ∧ InIn w5 a nL D.live) := ⟨hb5, hin⟩
      clear hin hnew hb5 hnL o0 o1 o2 o3 ol
      go_wp2
      go_loopg [28] nL (fun kx s wr => ∃ j : Nat, s = .int .i64 j ∧ j ≤ nL ∧ kx = nL - j ∧ Hid (Below X4.heap.size X4 wr ∧ InIn wr a nL D.live ∧ ∀ i, i < j → headF D.lives (D.know (D.live.getD i 0)).succ ≠ -1))
      case atStart => exact ⟨0, rfl, Nat.zero_le _, rfl, (⟨H5.out.1, H5.out.2, fun i hi => absurd hi (Nat.not_lt_zero _)⟩ : Below _ _ _ ∧ _ ∧ _)⟩
      case round =>
        obtain ⟨j, rfl, hj, rfl, H⟩ := hrel
        clear H5
        have hI := H4.out.2.2.2.1.below H.out.1
        obtain ⟨r0, r1, r2, r3, rl⟩ := c4_block hI.box
        obtain ⟨s0, s1, s2, s3, sl⟩ := c4_block hI.res
        have sf := fz_block hI.res
        obtain ⟨o0, o1, o2, o3, ol⟩ := c4_block ((H.out.1.block _ H4.out.2.2.2.2.2.1).trans H4.out.2.2.1)
        have HI : Hid _ := hI
        clear hI
        by_cases hlt : j < nL
        · have hj0 : (0 : Int) ≤ (j : Int) := Int.natCast_nonneg _
          have hj1 : (j : Int) < (nL : Int) := by omega
          obtain ⟨b, o, ha, hb, hx, hc⟩ := H.out.2.1.one (v := Value.int .i64) (fun _ => rfl) (i := j) hlt
          subst ha
          have hmem : D.live.getD j 0 ∈ D.live := by rw [List.getD_eq_getElem?_getD, List.getElem?_eq_getElem (by have := HNL.out; omega)]; simp
          have hml := (mem_live D _).1 hmem
          obtain ⟨m, hm⟩ : ∃ m : Nat, D.live.getD j 0 = m := ⟨(D.live.getD j 0).toNat, by omega⟩
          have HM : Hid (D.live.getD j 0 = m ∧ D.lives m = true ∧ D.live.getD j 0 ∈ D.live) := ⟨hm, by rw [← hm]; exact hml.2.2, hmem⟩
          have hm32 : m < 32 := by omega
          have hmI : (0 : Int) ≤ (m : Int) ∧ (m : Int) < 32 := by omega
          rw [hm] at hc
          clear hmem hml hm hx
          have ho := H4.out.1.below H.out.1
          obtain ⟨p0, p1, p2⟩ := ho.peer hm32
          have HO : Hid (RfO w2.heap.size wr gu cu gl cl gi ci gp cp (usL D) (lvL D) (idL D) P) := ho
          have hkn : ∃ y, D.kn m = some y := by
            cases hy : D.kn m with
            | none => have := HM.out.2.1; simp [Rg.lives, hy] at this
            | some y => exact ⟨y, rfl⟩
          obtain ⟨y, hy⟩ := hkn
          have hpk := (H4.out.2.1.below H.out.1) m hm32 y hy
          have ek : D.know m = y := by simp [Rg.know, hy]
          generalize (P.getD m pr30).id = mid at p0
          generalize (P.getD m pr30).pred = mpr at p1
          obtain ⟨ma, hma⟩ : ∃ ma, ma = (P.getD m pr30).a := ⟨_, rfl⟩
          obtain ⟨ml, hml⟩ : ∃ ml, ml = (P.getD m pr30).len := ⟨_, rfl⟩
          obtain ⟨mc, hmc⟩ : ∃ mc, mc = (P.getD m pr30).cap := ⟨_, rfl⟩
          rw [← hma, ← hml, ← hmc] at p2
          obtain ⟨hd, hhd⟩ : ∃ hd, hd = headF D.lives (D.know m).succ := ⟨_, rfl⟩
          have HL : Hid (InIn wr ma ml (D.know m).succ ∧ headI (lvL D) (D.know m).succ = hd ∧ hd = headF D.lives (D.know m).succ ∧ (hd < 0 ↔ hd = -1)) := ⟨by rw [ek, hma, hml]; exact hpk.2.2.1.row, by rw [headI_rng HD.out.2, hhd], hhd, by rw [hhd]; exact headF_neg HD.out.2 _⟩
          clear hma hml hmc hhd ek hpk hy ho
          go_upto_region 10 with fail
          obtain ⟨ι, F, _, hF0, hFb, hFc⟩ := grown_fam wr
          have f1 : ∀ i, (F i).cell? ⟨w3.heap.size, 1, none⟩ = _ := fun i => cell_grown o1 (hFb i)
          have f2 : ∀ i, (F i).cell? ⟨w3.heap.size, 2, none⟩ = _ := fun i => cell_grown o2 (hFb i)
          have f3 : ∀ i, (F i).cell? ⟨w3.heap.size, 3, none⟩ = _ := fun i => cell_grown o3 (hFb i)
          have g0 : ∀ i, (F i).cell? ⟨gp, m * 3, none⟩ = _ := fun i => cell_grown p0 (hFb i)
          have g1 : ∀ i, (F i).cell? ⟨gp, m * 3 + 1, none⟩ = _ := fun i => cell_grown p1 (hFb i)
          have g2 : ∀ i, (F i).cell? ⟨gp, m * 3 + 2, none⟩ = _ := fun i => cell_grown p2 (hFb i)
          have HF : Hid ((∃ i, { wr with drawn := wr.drawn + 1 } = F i) ∧ (∀ i, Below wr.heap.size wr (F i)) ∧ (∀ i W, Below wr.heap.size (F i) W → ∃ j, W = F j)) := ⟨hF0, hFb, hFc⟩
          have HR : Hid (∀ i, RfW (F i) (lvL D) (idL D) (.agg #[.slice (some ⟨gl, 0, none⟩) 32 cl, .slice (some ⟨gi, 0, none⟩) 32 ci])) := fun i => (HO.out.below (hFb i)).rfw
          have HLi : Hid (∀ i, InIn (F i) ma ml (D.know m).succ) := fun i => HL.out.1.below (Nat.le_refl _) (hFb i)
          clear hF0 hFb hFc o0 o1 o2 o3 ol p0 p1 p2 r0 r1 r2 r3 rl s0 s1 s2 s3 sl sf hc hb
          refine wp_region_fam F HF.out.1 (by kernel_rfl) (by kernel_rfl) ?_
          repeat (go_big_quiet_step (first
            | (go_at_call 58; refine (rhead_r (lvL D) (idL D) _ _ _ ma ml mc (D.know m).succ _ (HR.out _) (HLi.out _)).mono ?_; rintro e' w' ⟨hs, hb⟩; exact ⟨by rw [hs, HL.out.2.1], HF.out.2.2 _ _ (hb.mono (HF.out.2.1 _).size)⟩)))
          refine wpQuiet_nil ?_
          rintro _ ⟨i, rfl⟩
          have HB6 := HF.out.2.1 i
          have HX : Hid (Below X4.heap.size X4 (F i) ∧ InIn (F i) (some ⟨b, o, none⟩) nL D.live) := ⟨H.out.1.trans (HB6.mono H.out.1.size), H.out.2.1.below (Nat.le_refl _) HB6⟩
          clear f1 f2 f3 g0 g1 g2 HF HR HLi HB6
          generalize F i = W6 at HX ⊢
          by_cases hneg : hd < 0
          · have hI := H4.out.2.2.2.1.below HX.out.1
            obtain ⟨r0, r1, r2, r3, rl⟩ := c4_block hI.box
            obtain ⟨s0, s1, s2, s3, sl⟩ := c4_block hI.res
            have sf := fz_block hI.res
            have ha := ans4 (H4.out.2.2.2.2.1.below HX.out.1) hI.bel hI.res ⟨_, _, _, rfl⟩ ⟨_, _, _, rfl⟩ ⟨_, _, _, rfl⟩ ⟨_, _, _, rfl⟩
            have E : Hid (R.failC k = 5 ∧ R.fail k = R) := by
              have hnd : R.needed k = true := (needed_del HV.out.2 k).2 ⟨D.live.getD j 0, by rw [← HD.out.1]; exact HM.out.2.2, by rw [← HD.out.1, HM.out.1, ← HL.out.2.2.1]; exact HL.out.2.2.2.1 hneg⟩
              have := HLV.out
              refine ⟨by simp [Rg.failC, this, hnd], by simp [Rg.fail, Rg.failC, this, hnd]⟩
            clear hI
            go_wp2
            refine bodyPost_ret (v := .tuple #[.agg #[.slice ua 32 uc, .slice la 32 lc, .slice ia 32 ic, .slice pa 32 pc], .int .i64 5]) (by simp [results, Tryz.results50, go_sem, s0, s1, s2, s3]) rfl ⟨_, by rw [E.out.1], by rw [E.out.2]; exact ha.1, ha.2⟩
          · have HJ : Hid (∀ i, i < j + 1 → headF D.lives (D.know (D.live.getD i 0)).succ ≠ -1) := fun i hi => by
              by_cases e : i = j
              · rw [e, HM.out.1, ← HL.out.2.2.1]; exact fun q => hneg (HL.out.2.2.2.2 q)
              · exact H.out.2.2 i (by omega)
            clear H HL HM
            go_wp2
            go_roundg (nL - (j + 1))
            case measure => omega
            case rel => exact ⟨j + 1, by go_num, by omega, rfl, (⟨HX.out.1, HX.out.2, HJ.out⟩ : Below _ _ _ ∧ _ ∧ _)⟩
        · have hj1 : ¬ (j : Int) < (nL : Int) := by omega
          obtain rfl : j = nL := by omega
          have E : Hid (R.failC k = 0 ∧ R.fail k = D) := by
            have hnd : R.needed k = false := by
              cases hq : R.needed k
              · rfl
              · obtain ⟨m, hm, hh⟩ := (needed_del HV.out.2 k).1 hq
                rw [← HD.out.1] at hm hh
                obtain ⟨i, hi, e⟩ := List.getElem_of_mem hm
                have := H.out.2.2 i (by rw [HNL.out]; exact hi)
                rw [List.getD_eq_getElem?_getD, List.getElem?_eq_getElem hi] at this
                simp only [Option.getD_some] at this
                rw [e] at this
                exact absurd hh this
            have hlv := HLV.out
            have h4' : ¬ ((k : Int) < 4 ∨ R.needed k = true) := by rw [hnd]; simp; omega
            have hc : R.failC k = 0 := by unfold Rg.failC; rw [hlv, if_neg (by simp), if_neg h4']
            exact ⟨hc, by unfold Rg.fail; rw [if_pos hc, HD.out.1]⟩
          have ha := ans4 (HVD.out.below H.out.1) HI.out.bel HI.out.res ⟨_, _, _, rfl⟩ ⟨_, _, _, rfl⟩ ⟨_, _, _, rfl⟩ ⟨_, _, _, rfl⟩
          clear H HI
          go_wp2
          refine bodyPost_ret (v := .tuple #[.agg #[.slice (some ⟨gu, 0, none⟩) 32 cu, .slice (some ⟨gl, 0, none⟩) 32 cl, .slice (some ⟨gi, 0, none⟩) 32 ci, .slice (some ⟨gp, 0, none⟩) 32 cp], .int .i64 0]) (by simp [results, Tryz.results50, go_sem, s0, s1, s2, s3]) rfl ⟨_, by rw [E.out.1], by rw [E.out.2]; exact ha.1, ha.2⟩
end Go.Proofs.YtgiiadjocfnhlabGreatDoor

/- wigwagref10.Join. -/
namespace Go.Proofs.YtgiiadjocfnhlabGreatDoor
open Go.ChangeShapes Go.WideShapes Go.ChangeAt Go.RowKit Go.Deep
set_option linter.unusedVariables false

theorem list_set32 {α : Type} (f g : Nat → α) (k : Nat) (hk : k < 32) (h : ∀ j, j < 32 → j ≠ k → g j = f j) : (List.range 32).map g = ((List.range 32).map f).set k (g k) := by
  apply List.ext_getElem?
  intro j
  rw [List.getElem?_set, List.getElem?_map, List.getElem?_map]
  by_cases hj : j < 32
  · by_cases e : k = j
    · subst e; simp [hk]
    · rw [if_neg e]
      simp [hj, h j hj (Ne.symm e)]
  · have e : k ≠ j := by omega
    rw [if_neg e]
    simp [List.getElem?_eq_none (show (List.range 32).length ≤ j by simp; omega)]
theorem join_rows (R : Rg) {k : Nat} (hk : k < 32) (id x : Int) : usL (R.joined k id x) = (usL R).set k true ∧ lvL (R.joined k id x) = (lvL R).set k true ∧ idL (R.joined k id x) = (idL R).set k id := by
  refine ⟨?_, ?_, ?_⟩
  · have := list_set32 (fun (j : Nat) => (R.pl (j : Int)).isSome) (fun (j : Nat) => ((R.joined k id x).pl (j : Int)).isSome) k hk (fun j hj hne => by rw [pl_joined, if_neg (by omega)])
    rw [pl_joined, if_pos rfl] at this
    exact this
  · have := list_set32 (fun (j : Nat) => R.lives (j : Int)) (fun (j : Nat) => (R.joined k id x).lives (j : Int)) k hk (fun j hj hne => by rw [lives_joined, if_neg (by omega)])
    rw [lives_joined, if_pos rfl] at this
    exact this
  · have := list_set32 (fun (j : Nat) => R.idOf (j : Int)) (fun (j : Nat) => (R.joined k id x).idOf (j : Int)) k hk (fun j hj hne => by unfold Rg.idOf; rw [pl_joined, if_neg (by omega)])
    have e : (R.joined k id x).idOf (k : Int) = id := by unfold Rg.idOf; rw [pl_joined, if_pos rfl]; rfl
    rw [e] at this
    exact this
theorem KnP.join {X : World} {B gp : Nat} {R : Rg} {P : List Pr3} (h : KnP X B gp R P) (hl : P.length = 32) {k : Nat} (hk : k < 32) (id x : Int) (hid : u64 id) (hx : i64 x) (a' : Option Addr) (c' : Nat) (l : List Int) (hll : l = (R.know x).succ) (n : Nat) (hin : InIn X a' n l) (hc1 : n ≤ c') (hc2 : c' ≤ 9223372036854775807) (hcl : ∀ z, a' = some z → z.block < B ∨ gp < z.block) (hnil : a' = none → n = 0) :
    KnP X B gp (R.joined k id x) (P.set k ⟨id, x, a', n, c'⟩) := by
  intro j hj y hy
  rw [getD_set3 _ _ _ _ (by omega)]
  have e : (R.joined k id x).kn j = if (j : Int) = k then some ⟨id, x, (R.know x).succ⟩ else R.kn j := rfl
  rw [e] at hy
  by_cases ej : j = k
  · subst ej
    rw [if_pos rfl] at hy ⊢
    cases hy
    exact ⟨rfl, rfl, ⟨hid, hx, by rw [← hll]; exact hin, hc1, hc2, hnil⟩, hcl⟩
  · rw [if_neg (by omega)] at hy
    rw [if_neg ej]
    exact h j hj y hy
theorem RfB.setU {w X : World} {gu cu gl cl gi ci gp cp : Nat} {U L : List Bool} {I : List Int} {P : List Pr3} (h : RfB w X gu cu gl cl gi ci gp cp U L I P) (k : Nat) (b : Bool) : RfB w (X.setCell ⟨gu, k, none⟩ (.bool b)) gu cu gl cl gi ci gp cp (U.set k b) L I P := by
  have hn := h.o.ne
  have hl := h.lo
  exact ⟨(Below.heap_setCell _ _ _ _ (by show w.heap.size ≠ gu; omega)).trans h.box, (Below.heap_setCell _ _ _ _ (by show w.heap.size + 1 ≠ gu; omega)).trans h.res, h.o.setU k b, h.bel.setCell (by show w.heap.size ≤ gu; omega) _, h.lo⟩
theorem RfB.setL {w X : World} {gu cu gl cl gi ci gp cp : Nat} {U L : List Bool} {I : List Int} {P : List Pr3} (h : RfB w X gu cu gl cl gi ci gp cp U L I P) (k : Nat) (b : Bool) : RfB w (X.setCell ⟨gl, k, none⟩ (.bool b)) gu cu gl cl gi ci gp cp U (L.set k b) I P := by
  have hn := h.o.ne
  have hl := h.lo
  exact ⟨(Below.heap_setCell _ _ _ _ (by show w.heap.size ≠ gl; omega)).trans h.box, (Below.heap_setCell _ _ _ _ (by show w.heap.size + 1 ≠ gl; omega)).trans h.res, h.o.setL k b, h.bel.setCell (by show w.heap.size ≤ gl; omega) _, h.lo⟩
theorem RfB.setI {w X : World} {gu cu gl cl gi ci gp cp : Nat} {U L : List Bool} {I : List Int} {P : List Pr3} (h : RfB w X gu cu gl cl gi ci gp cp U L I P) (k : Nat) (b : Int) (hb : u64 b) : RfB w (X.setCell ⟨gi, k, none⟩ (.int .u64 b)) gu cu gl cl gi ci gp cp U L (I.set k b) P := by
  have hn := h.o.ne
  have hl := h.lo
  exact ⟨(Below.heap_setCell _ _ _ _ (by show w.heap.size ≠ gi; omega)).trans h.box, (Below.heap_setCell _ _ _ _ (by show w.heap.size + 1 ≠ gi; omega)).trans h.res, h.o.setI k b hb, h.bel.setCell (by show w.heap.size ≤ gi; omega) _, h.lo⟩
theorem RfO.cellU {B : Nat} {w : World} {gu cu gl cl gi ci gp cp : Nat} {U L : List Bool} {I : List Int} {P : List Pr3} (h : RfO B w gu cu gl cl gi ci gp cp U L I P) {k : Nat} (hk : k < 32) : w.cell? ⟨gu, k, none⟩ = some (.bool (U.getD k false)) ∧ w.cell? ⟨gl, k, none⟩ = some (.bool (L.getD k false)) ∧ w.cell? ⟨gi, k, none⟩ = some (.int .u64 (I.getD k 0)) := by
  refine ⟨?_, ?_, ?_⟩
  · obtain ⟨b, o, hh, _, _, hc⟩ := (own_inB h.u).one (v := Value.bool) (fun _ => rfl) (i := k) hk
    simp only [Option.some.injEq, Addr.mk.injEq, and_true] at hh
    obtain ⟨rfl, rfl⟩ := hh
    simpa using hc
  · obtain ⟨b, o, hh, _, _, hc⟩ := (own_inB h.l).one (v := Value.bool) (fun _ => rfl) (i := k) hk
    simp only [Option.some.injEq, Addr.mk.injEq, and_true] at hh
    obtain ⟨rfl, rfl⟩ := hh
    simpa using hc
  · obtain ⟨b, o, hh, _, _, hc⟩ := (own_inU h.i h.ok.1).one (v := Value.int .u64) (fun _ => rfl) (i := k) hk
    simp only [Option.some.injEq, Addr.mk.injEq, and_true] at hh
    obtain ⟨rfl, rfl⟩ := hh
    simpa using hc
theorem mem_takenF {R : Rg} {id : Int} (h : ∀ i, i < R.live.length → R.idOf (R.live.getD i 0) ≠ id) : R.taken id = false := by
  unfold Rg.taken anyF
  rw [List.any_eq_false]
  intro m hm
  obtain ⟨i, hi, rfl⟩ := List.getElem_of_mem hm
  have := h i hi
  rw [List.getD_eq_getElem?_getD, List.getElem?_eq_getElem hi] at this
  simpa using this
theorem mem_takenT {R : Rg} {id : Int} {i : Nat} (hi : i < R.live.length) (h : R.idOf (R.live.getD i 0) = id) : R.taken id = true := by
  unfold Rg.taken anyF
  rw [List.any_eq_true]
  refine ⟨R.live[i], List.getElem_mem hi, ?_⟩
  rw [List.getD_eq_getElem?_getD, List.getElem?_eq_getElem hi] at h
  simpa using h
theorem plc_u {x : Int} (h : Plc x) : 0 ≤ x ∧ x ≤ 18446744073709551615 := by unfold Plc at h; omega
/-- Where the ring is turned: the new member's rows. -/
structure RfT (w X : World) (R : Rg) (k p : Nat) (id : Int) (gu cu gl cl gi ci gp cp : Nat) (P : List Pr3) : Prop where
  b : RfB w X gu cu gl cl gi ci gp cp (usL (R.joined k id p)) (lvL (R.joined k id p)) (idL (R.joined k id p)) P
  kn : KnP X w.heap.size gp R P

set_option maxRecDepth 100000 in
set_option maxHeartbeats 8000000 in
theorem rjoin_r (R : Rg) (v : Value) (n id via : Int) (w : World) (h : RfV w R v) (hi : Inv R) (hid : u64 id) :
    Calls Tryz.prog 49 #[v, .int .i64 n, .int .u64 id, .int .i64 via] w fun e w' => ∃ v', e = .returned (.tuple #[v', .int .i64 (R.joinC n id via)]) ∧ RfV w' (R.join n id via) v' ∧ Below w.heap.size w w' := by
  obtain ⟨i0, hif, hz0, hz1, hz2⟩ := info_of Tryz.infoInt
  have HV : Hid (RfV w R v ∧ Inv R ∧ u64 id) := ⟨h, hi, hid⟩
  obtain ⟨ua, uc, la, lc, ia, ic, pa, pc, P, rfl, h1, h2, h3, h4, h5⟩ := h.ex
  have HIN : Hid (LvIn w ua 32 (usL R) ∧ LvIn w la 32 (lvL R) ∧ IdIn w ia 32 (idL R) ∧ InRow 3 Pr3.cells Pr3.ok pr30 w pa 32 P ∧ ∀ j : Nat, j < 32 → PrOk w (R.kn j) (P.getD j pr30)) := ⟨h1, h2, h3, h4, h5⟩
  clear h h1 h2 h3 h4 h5 hi hid
  obtain ⟨W1, hW1⟩ : ∃ W1, W1 = (w.alloc (.cells #[.slice ua 32 uc, .slice la 32 lc, .slice ia 32 ic, .slice pa 32 pc] 34)).alloc (.cells #[.slice none 0 0, .slice none 0 0, .slice none 0 0, .slice none 0 0] 34) := ⟨_, rfl⟩
  have H1 : Hid (RfI w W1 (.slice ua 32 uc) (.bool true) (.slice la 32 lc) (.bool true) (.slice ia 32 ic) (.bool true) (.slice pa 32 pc) (.bool true)) := by rw [hW1]; exact RfI.start w _ _ _ _ _
  obtain ⟨r0, r1, r2, r3, rl⟩ := c4_block H1.out.box
  obtain ⟨s0, s1, s2, s3, sl⟩ := c4_block H1.out.res
  have sf := fz_block H1.out.res
  have ha1 := ans4 (HV.out.1.below H1.out.bel) H1.out.bel H1.out.res ⟨_, _, _, rfl⟩ ⟨_, _, _, rfl⟩ ⟨_, _, _, rfl⟩ ⟨_, _, _, rfl⟩
  have HA1 : Hid _ := ha1
  clear ha1
  by_cases hr : n < 0 ∨ 32 ≤ n
  · have E : Hid (R.joinC n id via = 1 ∧ R.join n id via = R) := (by simp [Rg.join, Rg.joinC, hr] : R.joinC n id via = 1 ∧ R.join n id via = R)
    have hr' : n < 0 ∨ (¬ n < 0 ∧ 31 < n) := by omega
    clear hr
    rcases hr' with hr | ⟨hr0, hr⟩
    all_goals
      go_enter Tryz.func49, Tryz.ntmps49
      go_upto_region 1 with fail
      rw [← hW1]
      clear hW1
      go_wp2
      refine bodyPost_ret (v := .tuple #[.agg #[.slice ua 32 uc, .slice la 32 lc, .slice ia 32 ic, .slice pa 32 pc], .int .i64 1]) (by simp [results, Tryz.results49, go_sem, s0, s1, s2, s3]) rfl ⟨_, by rw [E.out.1], by rw [E.out.2]; exact HA1.out.1, HA1.out.2⟩
  · obtain ⟨k, hk⟩ : ∃ k : Nat, n = k := ⟨n.toNat, by omega⟩
    subst hk
    have hk32 : k < 32 := by omega
    have hkI : (0 : Int) ≤ (k : Int) ∧ (k : Int) < 32 := by omega
    have hk31 : ¬ (31 : Int) < (k : Int) := by omega
    have HR : Hid (¬ ((k : Int) < 0 ∨ 32 ≤ (k : Int))) := hr
    clear hr
    obtain ⟨ub, uo, hua, hub, _, huc⟩ := (HIN.out.1.below (Nat.le_refl _) H1.out.bel).one (v := Value.bool) (fun _ => rfl) (i := k) hk32
    rw [usL_getD R hk32] at huc
    subst hua
    by_cases hu : (R.pl k).isSome = true
    · rw [hu] at huc
      have E : Hid (R.joinC k id via = 7 ∧ R.join k id via = R) := (by have := HR.out; simp [Rg.join, Rg.joinC, this, hu] : R.joinC k id via = 7 ∧ R.join k id via = R)
      go_enter Tryz.func49, Tryz.ntmps49
      go_upto_region 1 with fail
      rw [← hW1]
      clear hW1
      go_wp2
      refine bodyPost_ret (v := .tuple #[.agg #[.slice (some ⟨ub, uo, none⟩) 32 uc, .slice la 32 lc, .slice ia 32 ic, .slice pa 32 pc], .int .i64 7]) (by simp [results, Tryz.results49, go_sem, s0, s1, s2, s3]) rfl ⟨_, by rw [E.out.1], by rw [E.out.2]; exact HA1.out.1, HA1.out.2⟩
    · have hu' : (R.pl k).isSome = false := by simpa using hu
      rw [hu'] at huc
      have HU : Hid ((R.pl k).isSome = false) := hu'
      clear hu hu'
      go_enter Tryz.func49, Tryz.ntmps49
      go_upto_region 1 with fail
      rw [← hW1]
      clear hW1 s0 s1 s2 s3 sl sf HA1
      obtain ⟨bv, hbv⟩ : ∃ b, b = R.lives via := ⟨_, rfl⟩
      have HW : Hid (RfW w (lvL R) (idL R) (.agg #[.slice la 32 lc, .slice ia 32 ic]) ∧ livesB (lvL R) via = bv ∧ bv = R.lives via) := ⟨⟨la, 32, lc, ia, 32, ic, rfl, HIN.out.2.1, HIN.out.2.2.1⟩, by rw [livesB_R HV.out.2.1, hbv], hbv⟩
      clear hbv
      go_wp2_with fail
      refine (rlives_r _ _ _ _ _ (HW.out.1.below H1.out.bel)).mono ?_
      rintro e w2 ⟨rfl, hb2⟩
      rw [HW.out.2.1]
      have H2 : Hid (RfI w w2 (.slice (some ⟨ub, uo, none⟩) 32 uc) (.bool true) (.slice la 32 lc) (.bool true) (.slice ia 32 ic) (.bool true) (.slice pa 32 pc) (.bool true)) := H1.out.below hb2
      clear r0 r1 r2 r3 rl H1 hb2 hub huc
      obtain ⟨r0, r1, r2, r3, rl⟩ := c4_block H2.out.box
      cases bv
      · obtain ⟨s0, s1, s2, s3, sl⟩ := c4_block H2.out.res
        have sf := fz_block H2.out.res
        have ha := ans4 (HV.out.1.below H2.out.bel) H2.out.bel H2.out.res ⟨_, _, _, rfl⟩ ⟨_, _, _, rfl⟩ ⟨_, _, _, rfl⟩ ⟨_, _, _, rfl⟩
        have E : Hid (R.joinC k id via = 6 ∧ R.join k id via = R) := (by have h1 := HR.out; have h2 := HU.out; have h3 := HW.out.2.2; simp [Rg.join, Rg.joinC, h1, h2, ← h3] : R.joinC k id via = 6 ∧ R.join k id via = R)
        go_wp2
        refine bodyPost_ret (v := .tuple #[.agg #[.slice (some ⟨ub, uo, none⟩) 32 uc, .slice la 32 lc, .slice ia 32 ic, .slice pa 32 pc], .int .i64 6]) (by simp [results, Tryz.results49, go_sem, s0, s1, s2, s3]) rfl ⟨_, by rw [E.out.1], by rw [E.out.2]; exact ha.1, ha.2⟩
      · have hvl : R.lives via = true := HW.out.2.2.symm
        have hvr := HV.out.2.1.rng via hvl
        obtain ⟨via', hvv⟩ : ∃ via' : Nat, via = via' := ⟨via.toNat, by omega⟩
        subst hvv
        have HVL : Hid (R.lives via' = true) := hvl
        clear hvl hvr
        go_wp2_with fail
        refine (rlive_r R _ _ (HV.out.1.below H2.out.bel)).mono ?_
        rintro e w3 ⟨a, c, rfl, hin, hnew, hb3⟩
        have hl32 : R.live.length ≤ 32 := liveTo_len R 32
        obtain ⟨nL, hnL⟩ : ∃ nL, nL = R.live.length := ⟨_, rfl⟩
        rw [← hnL] at hin hl32 ⊢
        have HNL : Hid (nL = R.live.length) := hnL
        have H3 : Hid (RfI w w3 (.slice (some ⟨ub, uo, none⟩) 32 uc) (.bool true) (.slice la 32 lc) (.bool true) (.slice ia 32 ic) (.bool true) (.slice pa 32 pc) (.bool true) ∧ InIn w3 a nL R.live) := ⟨H2.out.below hb3, hin⟩
        clear r0 r1 r2 r3 rl H2 hin hnew hb3 hnL
        obtain ⟨r0, r1, r2, r3, rl⟩ := c4_block H3.out.1.box
        obtain ⟨s0, s1, s2, s3, sl⟩ := c4_block H3.out.1.res
        have sf := fz_block H3.out.1.res
        have ha3 := ans4 (HV.out.1.below H3.out.1.bel) H3.out.1.bel H3.out.1.res ⟨_, _, _, rfl⟩ ⟨_, _, _, rfl⟩ ⟨_, _, _, rfl⟩ ⟨_, _, _, rfl⟩
        have HA3 : Hid _ := ha3
        clear ha3
        obtain ⟨ib, io, hia, hib, _, _⟩ := (HIN.out.2.2.1.below (Nat.le_refl _) H3.out.1.bel).one (v := Value.int .u64) (fun _ => rfl) (i := 0) (by omega)
        subst hia
        have HIC : Hid (∀ W, Below w.heap.size w W → ∀ m : Nat, m < 32 → W.cell? ⟨ib, io + m, none⟩ = some (.int .u64 (R.idOf m))) := fun W hW m hm => by
          obtain ⟨b, o, hh, _, _, hc⟩ := (HIN.out.2.2.1.below (Nat.le_refl _) hW).one (v := Value.int .u64) (fun _ => rfl) (i := m) hm
          simp only [Option.some.injEq, Addr.mk.injEq, and_true] at hh
          obtain ⟨rfl, rfl⟩ := hh
          rw [idL_getD R hm] at hc
          exact hc
        go_wp2
        go_loop [37] (fun q => ∃ j : Nat, q = .int .i64 j ∧ j ≤ nL ∧ Hid (∀ i, i < j → R.idOf (R.live.getD i 0) ≠ id)) (fun q => nL - (intOf q).toNat)
        case atStart => exact ⟨0, rfl, Nat.zero_le _, (fun i hi => absurd hi (Nat.not_lt_zero _) : ∀ i, i < 0 → R.idOf (R.live.getD i 0) ≠ id)⟩
        case round =>
          obtain ⟨j, rfl, hj, HJ⟩ := hrel
          by_cases hlt : j < nL
          · have hj0 : (0 : Int) ≤ (j : Int) := Int.natCast_nonneg _
            have hj1 : (j : Int) < (nL : Int) := by omega
            obtain ⟨b, o, ha, hb, hx, hc⟩ := H3.out.2.one (v := Value.int .i64) (fun _ => rfl) (i := j) hlt
            subst ha
            have hmem : R.live.getD j 0 ∈ R.live := by rw [List.getD_eq_getElem?_getD, List.getElem?_eq_getElem (by have := HNL.out; omega)]; simp
            have hml := (mem_live R _).1 hmem
            obtain ⟨m, hm⟩ : ∃ m : Nat, R.live.getD j 0 = m := ⟨(R.live.getD j 0).toNat, by omega⟩
            have hm32 : m < 32 := by omega
            have hmI : (0 : Int) ≤ (m : Int) ∧ (m : Int) < 32 := by omega
            have hci := HIC.out w3 H3.out.1.bel m hm32
            rw [hm] at hc
            have HM : Hid (R.live.getD j 0 = m) := hm
            clear hmem hml hm hx
            by_cases he : R.idOf m = id
            · have E : Hid (R.joinC k id via' = 8 ∧ R.join k id via' = R) := (by have h1 := HR.out; have h2 := HU.out; have h3 := HVL.out; have h4 := mem_takenT (R := R) (id := id) (i := j) (by have := HNL.out; omega) (by rw [HM.out]; exact he); simp [Rg.join, Rg.joinC, h1, h2, h3, h4] : R.joinC k id via' = 8 ∧ R.join k id via' = R)
              rw [he] at hci
              have ee : (id == id) = true := by simp
              clear he
              go_wp2
              refine bodyPost_ret (v := .tuple #[.agg #[.slice (some ⟨ub, uo, none⟩) 32 uc, .slice la 32 lc, .slice (some ⟨ib, io, none⟩) 32 ic, .slice pa 32 pc], .int .i64 8]) (by simp [results, Tryz.results49, go_sem, s0, s1, s2, s3]) rfl ⟨_, by rw [E.out.1], by rw [E.out.2]; exact HA3.out.1, HA3.out.2⟩
            · have HJ2 : Hid (∀ i, i < j + 1 → R.idOf (R.live.getD i 0) ≠ id) := fun i hi => by
                by_cases e : i = j
                · rw [e, HM.out]; exact he
                · exact HJ.out i (by omega)
              generalize R.idOf m = im at hci he
              have ee : (im == id) = false := by simpa using he
              clear he
              go_wp2
              go_round
              case rel => exact ⟨j + 1, by go_num, by omega, HJ2⟩
              case measure => simp [intOf]; omega
          · have hj1 : ¬ (j : Int) < (nL : Int) := by omega
            obtain rfl : j = nL := by omega
            have HT : Hid (R.taken id = false) := mem_takenF (by rw [← HNL.out]; exact HJ.out)
            have HI3 : Hid (RfI w w3 (.slice (some ⟨ub, uo, none⟩) 32 uc) (.bool true) (.slice la 32 lc) (.bool true) (.slice (some ⟨ib, io, none⟩) 32 ic) (.bool true) (.slice pa 32 pc) (.bool true)) := H3.out.1
            clear HJ HNL H3 s0 s1 s2 s3 sl sf HA3 r0 r1 r2 r3 rl
            go_wp2
            obtain ⟨pb, po, hpa, hpblt, hpcells⟩ := HIN.out.2.2.2.1.2.2.resolve_left (by omega)
            subst hpa
            have HPC : Hid (∀ W, Below w.heap.size w W → pb < W.heap.size ∧ ∀ m : Nat, m < 32 → W.cell? ⟨pb, po + m * 3, none⟩ = some (.int .u64 (P.getD m pr30).id) ∧ W.cell? ⟨pb, po + m * 3 + 1, none⟩ = some (.int .i64 (P.getD m pr30).pred) ∧ W.cell? ⟨pb, po + m * 3 + 2, none⟩ = some (.slice (P.getD m pr30).a (P.getD m pr30).len (P.getD m pr30).cap)) := fun W hW =>
              ⟨Nat.lt_of_lt_of_le hpblt hW.size, fun m hm => ⟨(hW.cell (p := ⟨pb, po + m * 3, none⟩) hpblt).trans ((hpcells m hm).2 0 (by omega)), (hW.cell (p := ⟨pb, po + m * 3 + 1, none⟩) hpblt).trans ((hpcells m hm).2 1 (by omega)), (hW.cell (p := ⟨pb, po + m * 3 + 2, none⟩) hpblt).trans ((hpcells m hm).2 2 (by omega))⟩⟩
            clear hpblt hpcells
            go_loopg [13, 12] 33 (fun kx q x wr => ∃ i p : Nat, q = .int .i64 i ∧ x = .int .i64 p ∧ i ≤ 33 ∧ kx = 33 - i ∧ Hid (Below w3.heap.size w3 wr ∧ R.lives p = true ∧ R.aheadF id (33 - i) p = R.ahead id via'))
            case atStart => exact ⟨0, via', rfl, rfl, Nat.zero_le _, rfl, (⟨Below.refl _ _, HVL.out, rfl⟩ : Below w3.heap.size w3 w3 ∧ _ ∧ _)⟩
            case round =>
              obtain ⟨i, p, rfl, rfl, hi33, rfl, H⟩ := hrel
              have hI := HI3.out.below H.out.1
              have hbw := hI.bel
              by_cases hlt : i < 33
              · have hiI : (i : Int) < 33 := by omega
                have hp32' := HV.out.2.1.rng _ H.out.2.1
                have hp32 : p < 32 := by omega
                have hpI : (0 : Int) ≤ (p : Int) ∧ (p : Int) < 32 := by omega
                clear hp32'
                have hhd := HV.out.2.1.head H.out.2.1
                obtain ⟨q0, hq0⟩ : ∃ q0 : Nat, R.head p = q0 := ⟨(R.head p).toNat, by have := HV.out.2.1.rng _ hhd.1; omega⟩
                rw [hq0] at hhd
                have hq32' := HV.out.2.1.rng _ hhd.1
                have hq32 : q0 < 32 := by omega
                have hkp : ∃ y, R.kn p = some y := by
                  cases hy : R.kn p with
                  | none => have := H.out.2.1; simp [Rg.lives, hy] at this
                  | some y => exact ⟨y, rfl⟩
                obtain ⟨y, hy⟩ := hkp
                have hpk := HIN.out.2.2.2.2 p hp32 y hy
                have ek : R.know p = y := by simp [Rg.know, hy]
                obtain ⟨p0, p1, p2⟩ := (HPC.out wr hbw).2 p hp32
                have hpbz := (HPC.out wr hbw).1
                generalize (P.getD p pr30).id = mid at p0
                generalize (P.getD p pr30).pred = mpr at p1
                obtain ⟨ma, hma⟩ : ∃ ma, ma = (P.getD p pr30).a := ⟨_, rfl⟩
                obtain ⟨ml, hml⟩ : ∃ ml, ml = (P.getD p pr30).len := ⟨_, rfl⟩
                obtain ⟨mc, hmc⟩ : ∃ mc, mc = (P.getD p pr30).cap := ⟨_, rfl⟩
                rw [← hma, ← hml, ← hmc] at p2
                have HL : Hid (InIn wr ma ml (R.know p).succ ∧ headI (lvL R) (R.know p).succ = q0 ∧ R.head p = q0 ∧ R.lives q0 = true) := ⟨by rw [ek, hma, hml]; exact hpk.2.2.row.below (Nat.le_refl _) hbw, by rw [headI_R HV.out.2.1, ← hq0]; unfold Rg.head; rw [HV.out.2.1.lv], hq0, hhd.1⟩
                clear hma hml hmc ek hpk hy hq0 hhd hq32'
                obtain ⟨o0, o1, o2, o3, ol⟩ := c4_block hI.box
                go_upto_region 17 with fail
                obtain ⟨ι, F, _, hF0, hFb, hFc⟩ := grown_fam wr
                have f1 : ∀ i, (F i).cell? ⟨w.heap.size, 1, none⟩ = _ := fun i => cell_grown o1 (hFb i)
                have f2 : ∀ i, (F i).cell? ⟨w.heap.size, 2, none⟩ = _ := fun i => cell_grown o2 (hFb i)
                have f3 : ∀ i, (F i).cell? ⟨w.heap.size, 3, none⟩ = _ := fun i => cell_grown o3 (hFb i)
                have g0 : ∀ i, (F i).cell? ⟨pb, po + p * 3, none⟩ = _ := fun i => cell_grown p0 (hFb i)
                have g1 : ∀ i, (F i).cell? ⟨pb, po + p * 3 + 1, none⟩ = _ := fun i => cell_grown p1 (hFb i)
                have g2 : ∀ i, (F i).cell? ⟨pb, po + p * 3 + 2, none⟩ = _ := fun i => cell_grown p2 (hFb i)
                have HF : Hid ((∃ i, { wr with drawn := wr.drawn + 1 } = F i) ∧ (∀ i, Below wr.heap.size wr (F i)) ∧ (∀ i W, Below wr.heap.size (F i) W → ∃ j, W = F j)) := ⟨hF0, hFb, hFc⟩
                have HRf : Hid (∀ i, RfW (F i) (lvL R) (idL R) (.agg #[.slice la 32 lc, .slice (some ⟨ib, io, none⟩) 32 ic])) := fun i => (HW.out.1.below hbw).below (hFb i)
                have HLi : Hid (∀ i, InIn (F i) ma ml (R.know p).succ) := fun i => HL.out.1.below (Nat.le_refl _) (hFb i)
                have HBW : Hid (Below w.heap.size w wr) := hbw
                clear hF0 hFb hFc o0 o1 o2 o3 ol p0 p1 p2 hI hbw hpbz
                refine wp_region_fam F HF.out.1 (by kernel_rfl) (by kernel_rfl) ?_
                repeat (go_big_quiet_step (first
                  | (go_at_call 58; refine (rhead_r (lvL R) (idL R) _ _ _ ma ml mc (R.know p).succ _ (HRf.out _) (HLi.out _)).mono ?_; rintro e' w' ⟨hs, hb⟩; exact ⟨by rw [hs, HL.out.2.1], HF.out.2.2 _ _ (hb.mono (HF.out.2.1 _).size)⟩)))
                refine wpQuiet_nil ?_
                rintro _ ⟨i2, rfl⟩
                have HB5 := HF.out.2.1 i2
                have HX : Hid (Below w3.heap.size w3 (F i2)) := H.out.1.trans (HB5.mono H.out.1.size)
                clear f1 f2 f3 g0 g1 g2 HF HRf HLi HB5
                generalize F i2 = W5 at HX ⊢
                have hI5 := HI3.out.below HX.out
                obtain ⟨o0, o1, o2, o3, ol⟩ := c4_block hI5.box
                have hip := HIC.out W5 hI5.bel p hp32
                have hup := HV.out.2.1.u p
                have huq := HV.out.2.1.u q0
                obtain ⟨wb, hwb⟩ : ∃ wb, wb = withinB id (R.idOf p) (R.idOf q0) := ⟨_, rfl⟩
                have HWB : Hid (wb = withinB id (R.idOf p) (R.idOf q0) ∧ idI (idL R) q0 = R.idOf q0) := ⟨hwb, idI_R (by omega) (by omega)⟩
                have HPl : Hid ((0 ≤ R.idOf p ∧ R.idOf p ≤ 18446744073709551615) ∧ (0 ≤ R.idOf q0 ∧ R.idOf q0 ≤ 18446744073709551615)) := ⟨plc_u hup, plc_u huq⟩
                obtain ⟨ip, hip0⟩ : ∃ ip, ip = R.idOf p := ⟨_, rfl⟩
                rw [← hip0] at hip HWB HPl
                have HIP : Hid (R.idOf p = ip) := hip0.symm
                clear hip0
                clear hup huq hwb
                go_upto_region 18 with fail
                obtain ⟨ι3, F, _, hF0, hFb, hFc⟩ := grown_fam W5
                have f1 : ∀ i, (F i).cell? ⟨w.heap.size, 1, none⟩ = _ := fun i => cell_grown o1 (hFb i)
                have f2 : ∀ i, (F i).cell? ⟨w.heap.size, 2, none⟩ = _ := fun i => cell_grown o2 (hFb i)
                have g0 : ∀ i, (F i).cell? ⟨ib, io + p, none⟩ = _ := fun i => cell_grown hip (hFb i)
                have HF : Hid ((∃ i, { W5 with drawn := W5.drawn + 1 } = F i) ∧ (∀ i, Below W5.heap.size W5 (F i)) ∧ (∀ i W, Below W5.heap.size (F i) W → ∃ j, W = F j)) := ⟨hF0, hFb, hFc⟩
                have HRf : Hid (∀ i, RfW (F i) (lvL R) (idL R) (.agg #[.slice la 32 lc, .slice (some ⟨ib, io, none⟩) 32 ic])) := fun i => (HW.out.1.below hI5.bel).below (hFb i)
                clear hF0 hFb hFc o0 o1 o2 o3 ol hip hI5
                refine wp_region_fam F HF.out.1 (by kernel_rfl) (by kernel_rfl) ?_
                repeat (go_big_quiet_step (first
                  | (go_at_call 60; refine (rid_r (lvL R) (idL R) _ _ _ (HRf.out _)).mono ?_; rintro e' w' ⟨hs, hb⟩; exact ⟨by rw [hs, HWB.out.2], HF.out.2.2 _ _ (hb.mono (HF.out.2.1 _).size)⟩)
                  | (go_at_call 62; refine (refwithin_any _ _ _ _ HV.out.2.2 HPl.out.1 HPl.out.2).mono ?_; rintro e' w' ⟨hs, hb⟩; exact ⟨by rw [hs, ← HWB.out.1], HF.out.2.2 _ _ (by rw [hb]; exact Below.refl _ _)⟩)))
                refine wpQuiet_nil ?_
                rintro _ ⟨i3, rfl⟩
                have HB6 := HF.out.2.1 i3
                have HX6 : Hid (Below w3.heap.size w3 (F i3)) := HX.out.trans (HB6.mono HX.out.size)
                clear f1 f2 g0 HF HRf HB6 HX
                generalize F i3 = W6 at HX6 ⊢
                have HAF : Hid (R.aheadF id (33 - i) p = if wb then (p : Int) else R.aheadF id (33 - (i + 1)) q0) := by
                  have e : 33 - i = (33 - (i + 1)) + 1 := by omega
                  show R.aheadF id (33 - i) p = _
                  rw [e]
                  show (if withinB id (R.idOf p) (R.idOf (R.head p)) then (p : Int) else R.aheadF id (33 - (i + 1)) (R.head p)) = _
                  rw [HL.out.2.2.1, HIP.out, ← HWB.out.1]
                cases wb
                · have HN : Hid (R.aheadF id (33 - (i + 1)) q0 = R.ahead id via') := by
                    have h1 := HAF.out
                    rw [if_neg (by simp)] at h1
                    exact h1.symm.trans H.out.2.2
                  have HQL : Hid (R.lives q0 = true) := HL.out.2.2.2
                  clear H HAF HWB HL
                  go_wp2
                  go_roundg (33 - (i + 1))
                  case measure => omega
                  case rel => exact ⟨i + 1, q0, by go_num, rfl, by omega, rfl, (⟨HX6.out, HQL.out, HN.out⟩ : Below _ _ _ ∧ _ ∧ _)⟩
                · have HA : Hid (R.ahead id via' = p) := by
                    have h1 := HAF.out
                    rw [if_pos rfl] at h1
                    exact H.out.2.2.symm.trans h1
                  have HPL : Hid (R.lives p = true) := H.out.2.1
                  have E : Hid (R.joinC k id via' = 0 ∧ R.join k id via' = R.joined k id p) := by
                    have h1 := HR.out; have h2 := HU.out; have h3 := HVL.out; have h4 := HT.out; have h5 := HA.out
                    have hc : R.joinC k id via' = 0 := by
                      unfold Rg.joinC
                      rw [if_neg h1, if_neg (by rw [h2]; simp), if_neg (by rw [h3]; simp), if_neg (by rw [h4]; simp), if_neg (by rw [h5]; omega)]
                    exact ⟨hc, by unfold Rg.join; rw [if_pos hc, h5]⟩
                  clear H HAF HWB HL HA HT HVL HU HR
                  have hI6 := HI3.out.below HX6.out
                  obtain ⟨o0, o1, o2, o3, ol⟩ := c4_block hI6.box
                  have of6 := fz_block hI6.box
                  have HI6 : Hid (RfI w W6 (.slice (some ⟨ub, uo, none⟩) 32 uc) (.bool true) (.slice la 32 lc) (.bool true) (.slice (some ⟨ib, io, none⟩) 32 ic) (.bool true) (.slice (some ⟨pb, po, none⟩) 32 pc) (.bool true)) := hI6
                  clear hI6
                  go_wp2_with fail
                  refine (rcopy_r (some ⟨ub, uo, none⟩) la (some ⟨ib, io, none⟩) (some ⟨pb, po, none⟩) uc lc ic pc (usL R) (lvL R) (idL R) P W6 (HIN.out.1.below (Nat.le_refl _) HI6.out.bel) (HIN.out.2.1.below (Nat.le_refl _) HI6.out.bel) (HIN.out.2.2.1.below (Nat.le_refl _) HI6.out.bel) (HIN.out.2.2.2.1.below (Nat.le_refl _) HI6.out.bel)).mono ?_
                  rintro e w7 ⟨gu, cu, gl, cl, gi, ci, gp, cp, rfl, ho7, hb7⟩
                  obtain ⟨X7, hX7⟩ : ∃ X7, X7 = set4 w7 w.heap.size (.slice (some ⟨gu, 0, none⟩) 32 cu) (.slice (some ⟨gl, 0, none⟩) 32 cl) (.slice (some ⟨gi, 0, none⟩) 32 ci) (.slice (some ⟨gp, 0, none⟩) 32 cp) := ⟨_, rfl⟩
                  have H7 : Hid (RfB w X7 gu cu gl cl gi ci gp cp (usL R) (lvL R) (idL R) P ∧ KnP X7 w.heap.size gp R P) := by
                    have hB : RfB w X7 gu cu gl cl gi ci gp cp (usL R) (lvL R) (idL R) P := by rw [hX7]; exact RfB.start (B := 0) HI6.out ho7 hb7
                    exact ⟨hB, KnP.ofV HV.out.2.1 HIN.out.2.2.2.2 hB.bel⟩
                  have h77 := HI6.out.below hb7
                  clear o0 o1 o2 o3 ol of6
                  obtain ⟨o0, o1, o2, o3, ol⟩ := c4_block h77.box
                  have of7 := fz_block h77.box
                  unfold set4 at hX7
                  unfold rfv
                  clear ho7 hb7 h77 HI6 HIC HPC HIN HW HX6
                  go_upto_region 20 with fail
                  rw [← hX7]
                  clear hX7 o0 o1 o2 o3 ol of7
                  have hn7 := H7.out.1.o.ne
                  have hlo7 := H7.out.1.lo
                  -- used
                  obtain ⟨o0, o1, o2, o3, ol⟩ := c4_block H7.out.1.box
                  obtain ⟨cu0, cl0, ci0⟩ := H7.out.1.o.cellU hk32
                  have fu0 := (H7.out.1.o.fz k).1
                  obtain ⟨X8, hX8⟩ : ∃ X8, X8 = X7.setCell ⟨gu, k, none⟩ (.bool true) := ⟨_, rfl⟩
                  have H8 : Hid (RfB w X8 gu cu gl cl gi ci gp cp ((usL R).set k true) (lvL R) (idL R) P ∧ KnP X8 w.heap.size gp R P) := by rw [hX8]; exact ⟨H7.out.1.setU k true, H7.out.2.set gu _ ⟨by omega, by omega⟩ _⟩
                  go_upto_region 21 with fail
                  rw [← hX8]
                  clear hX8 o0 o1 o2 o3 ol cu0 cl0 ci0 fu0 H7
                  obtain ⟨o0, o1, o2, o3, ol⟩ := c4_block H8.out.1.box
                  obtain ⟨cu0, cl0, ci0⟩ := H8.out.1.o.cellU hk32
                  have fu0 := (H8.out.1.o.fz k).2.1
                  obtain ⟨X9, hX9⟩ : ∃ X9, X9 = X8.setCell ⟨gl, k, none⟩ (.bool true) := ⟨_, rfl⟩
                  have H9 : Hid (RfB w X9 gu cu gl cl gi ci gp cp ((usL R).set k true) ((lvL R).set k true) (idL R) P ∧ KnP X9 w.heap.size gp R P) := by rw [hX9]; exact ⟨H8.out.1.setL k true, H8.out.2.set gl _ ⟨by omega, by omega⟩ _⟩
                  go_upto_region 22 with fail
                  rw [← hX9]
                  clear hX9 o0 o1 o2 o3 ol cu0 cl0 ci0 fu0 H8
                  obtain ⟨o0, o1, o2, o3, ol⟩ := c4_block H9.out.1.box
                  obtain ⟨cu0, cl0, ci0⟩ := H9.out.1.o.cellU hk32
                  have fu0 := (H9.out.1.o.fz k).2.2.1
                  obtain ⟨XA, hXA⟩ : ∃ XA, XA = X9.setCell ⟨gi, k, none⟩ (.int .u64 id) := ⟨_, rfl⟩
                  have HB : Hid (RfB w XA gu cu gl cl gi ci gp cp (usL (R.joined k id p)) (lvL (R.joined k id p)) (idL (R.joined k id p)) P ∧ KnP XA w.heap.size gp R P) := by
                    have hr := join_rows R hk32 id p
                    rw [hr.1, hr.2.1, hr.2.2, hXA]
                    exact ⟨H9.out.1.setI k id HV.out.2.2, H9.out.2.set gi _ ⟨by omega, by omega⟩ _⟩
                  go_upto_region 23 with fail
                  rw [← hXA]
                  clear hXA o0 o1 o2 o3 ol cu0 cl0 ci0 fu0 H9
                  have hat := HB.out.2.at HV.out.2.1 HPL.out
                  obtain ⟨u0, u1, u2⟩ := HB.out.1.o.peer hp32
                  rw [hat.2.2.2.1] at u2
                  obtain ⟨lb, lo, hsa, hlb, hlc⟩ := hat.2.2.2.2.1.row.2.2.resolve_left (by omega)
                  rw [hsa] at u2
                  have hlen3 : (R.know p).succ.length = 3 := hat.2.2.2.2.1.row.1
                  have HI64 : Hid (∀ x ∈ (R.know p).succ, i64 x) := inrow_ok hat.2.2.2.2.1.row (by omega)
                  have HNEWS : Hid (∀ W : World, (∀ b, b < XA.heap.size → W.heap[b]? = XA.heap[b]?) → ∀ j u, ((R.know p).succ.map cellI)[j]? = some u → W.cell? ((⟨lb, lo, none⟩ : Addr).add j) = some u) := fun W hW j u hu => by
                    have hj : j < 3 := by have := (List.getElem?_eq_some_iff.1 hu).1; simpa [hlen3] using this
                    have e := (hlc j hj).2 0 (by omega)
                    rw [List.getElem?_map, List.getElem?_eq_getElem (by omega)] at hu
                    simp only [Option.map_some, Option.some.injEq] at hu
                    have e2 : (R.know p).succ.getD j 0 = (R.know p).succ[j]'(by omega) := by simp [List.getD, hlen3, hj]
                    rw [e2] at e
                    rw [Addr.add_lit, ← hu, World.cell?_of_block (a := ⟨lb, lo + j, none⟩) (hW lb hlb)]
                    simpa [encI, cellI] using e
                  generalize (P.getD p pr30).cap = sc at u2
                  obtain ⟨o0, o1, o2, o3, ol⟩ := c4_block HB.out.1.box
                  obtain ⟨k0, k1, k2⟩ := HB.out.1.o.peer hk32
                  have e0 := (HB.out.1.o.fz (k * 3)).2.2.2
                  have e1 := (HB.out.1.o.fz (k * 3 + 1)).2.2.2
                  have e2 := (HB.out.1.o.fz (k * 3 + 2)).2.2.2
                  have hglt := HB.out.1.o.lt
                  obtain ⟨news, hnews⟩ : ∃ news, news = (R.know p).succ.map cellI := ⟨_, rfl⟩
                  have hnl : news.length = 3 * 1 := by rw [hnews]; simp [hlen3]
                  have hone : ∀ u ∈ news, u.oneCell' = true := by rw [hnews]; intro u hu; obtain ⟨x, _, rfl⟩ := List.mem_map.1 hu; rfl
                  rw [← hnews] at HNEWS
                  have HNW : Hid (news = (R.know p).succ.map cellI) := hnews
                  clear hat hsa hlc hlb hnews hlen3 u0 u1
                  go_cut [] (fun wx => ∃ w8 gg cap, Hid (wx = World.setCell (World.setCell (World.setCell w8 ⟨gp, k * 3, none⟩ (.int .u64 id)) ⟨gp, k * 3 + 1, none⟩ (.int .i64 (p : Int))) ⟨gp, k * 3 + 2, none⟩ (.slice (some ⟨gg, 0, none⟩) 3 cap) ∧ Below XA.heap.size XA w8 ∧ w8.ownsRow XA.heap.size 3 1 (.slice (some ⟨gg, 0, none⟩) 3 cap) 3 news ∧ XA.heap.size ≤ gg))
                  case first =>
                    go_region_law
                      ((refine step_append_lies _ (by rfl) _ _ _ (by rfl) XA.heap.size 3 i0 _ 1 8 Tryz.underlying24 hif hz0 hz1 hz2 rfl (by omega) _ _ _ (by rfl) (by first | exact own_nil1 XA.drew _ 1 | exact own_nil1 XA _ 1)
                          ⟨lb, lo, none⟩ 3 sc news (by rfl) hnl (HNEWS.out _ (fun b hb => by first | exact Below.heap_alloc XA.drew _ b hb | exact Below.heap_alloc XA _ b hb)) hone
                          (by omega) (by unfold maxLen; omega) (by omega) (by simp) (XA.heap.size + 1) (by simp) ?_; intro gg cap w8 hown1 hgrow hatg hlt3
                        have hown2 : w8.ownsRow XA.heap.size 3 1 (.slice (some ⟨gg, 0, none⟩) 3 cap) 3 news := by simpa using hown1
                        have B8 : Below XA.heap.size XA w8 := ⟨hgrow.os, hgrow.tape, hgrow.output, by have := hgrow.size; simp at this; omega, fun b hb => (hgrow.block b (by simp; omega) (fun e => by have e2 : some b = some XA.heap.size := e; simp at e2; omega)).trans (by first | exact Below.heap_alloc XA.drew _ b hb | exact Below.heap_alloc XA _ b hb)⟩
                        have hgg : XA.heap.size ≤ gg := (hown2.lt gg rfl).1
                        have y3 := cell_grown o3 B8
                        have v0 := cell_grown k0 B8
                        have v1 := cell_grown k1 B8
                        have v2 := cell_grown k2 B8
                        have z0 : w8.frozen? ⟨gp, k * 3, none⟩ = false := (World.frozen?_of_block (a := ⟨gp, k * 3, none⟩) (B8.block gp hglt.2.2.2)).trans e0
                        have z1 : w8.frozen? ⟨gp, k * 3 + 1, none⟩ = false := (World.frozen?_of_block (a := ⟨gp, k * 3 + 1, none⟩) (B8.block gp hglt.2.2.2)).trans e1
                        have z2 : w8.frozen? ⟨gp, k * 3 + 2, none⟩ = false := (World.frozen?_of_block (a := ⟨gp, k * 3 + 2, none⟩) (B8.block gp hglt.2.2.2)).trans e2
                        have yl := cell_block y3
                        have yl2 := cell_block v0))
                    all_goals (try go_wp2_with fail)
                    all_goals go_meet
                    all_goals exact ⟨w8, gg, cap, rfl, B8, hown2, hgg⟩
                  case rest =>
                    rename World => XE
                    obtain ⟨w8, gg, cap, HC⟩ := hcut
                    have hfin : RfB w XE gu cu gl cl gi ci gp cp (usL (R.joined k id p)) (lvL (R.joined k id p)) (idL (R.joined k id p)) (P.set k ⟨id, p, some ⟨gg, 0, none⟩, 3, cap⟩) ∧ KnP XE w.heap.size gp (R.joined k id p) (P.set k ⟨id, p, some ⟨gg, 0, none⟩, 3, cap⟩) := by
                      obtain ⟨hX, hb8, hrow, hgg⟩ := HC.out
                      have hB8 := HB.out.1.below hb8
                      have hlen := HB.out.1.o.len.2.2.2
                      have hm : P.getD k pr30 ∈ P := by rw [List.getD_eq_getElem?_getD, List.getElem?_eq_getElem (by omega)]; simp
                      have hok := HB.out.1.o.ok.2 _ hm
                      have hpo : i64 (p : Int) := by show -9223372036854775808 ≤ (p : Int) ∧ (p : Int) ≤ 9223372036854775807; omega
                      have s1 := hB8.setP (k := k) (j := 0) hk32 (by omega) (.int .u64 id) ⟨id, (P.getD k pr30).pred, (P.getD k pr30).a, (P.getD k pr30).len, (P.getD k pr30).cap⟩ rfl ⟨HV.out.2.2, hok.2⟩
                      have g1 : (P.set k ⟨id, (P.getD k pr30).pred, (P.getD k pr30).a, (P.getD k pr30).len, (P.getD k pr30).cap⟩).getD k pr30 = ⟨id, (P.getD k pr30).pred, (P.getD k pr30).a, (P.getD k pr30).len, (P.getD k pr30).cap⟩ := by rw [getD_set3 _ _ _ _ (by omega), if_pos rfl]
                      have s2 := s1.setP (k := k) (j := 1) hk32 (by omega) (.int .i64 (p : Int)) ⟨id, p, (P.getD k pr30).a, (P.getD k pr30).len, (P.getD k pr30).cap⟩ (by rw [g1]; rfl) ⟨HV.out.2.2, hpo⟩
                      rw [List.set_set] at s2
                      have g2 : (P.set k ⟨id, p, (P.getD k pr30).a, (P.getD k pr30).len, (P.getD k pr30).cap⟩).getD k pr30 = ⟨id, p, (P.getD k pr30).a, (P.getD k pr30).len, (P.getD k pr30).cap⟩ := by rw [getD_set3 _ _ _ _ (by omega), if_pos rfl]
                      have s3 := s2.setP (k := k) (j := 2) hk32 (by omega) (.slice (some ⟨gg, 0, none⟩) 3 cap) ⟨id, p, some ⟨gg, 0, none⟩, 3, cap⟩ (by rw [g2]; rfl) ⟨HV.out.2.2, hpo⟩
                      rw [List.set_set, Nat.add_zero] at s3
                      have hp : w.heap.size ≤ gp ∧ gp ≤ gp := ⟨by omega, Nat.le_refl _⟩
                      have hgp : ∀ x, (some ⟨gg, 0, none⟩ : Option Addr) = some x → x.block ≠ gp := fun x hx => by
                        obtain rfl := Option.some.inj hx
                        show gg ≠ gp
                        omega
                      rw [HNW.out] at hrow
                      have hL0 : InIn w8 (some ⟨gg, 0, none⟩) 3 (R.know p).succ := in_of_own hrow HI64.out (by omega)
                      rw [hX]
                      refine ⟨s3, KnP.join (l := (R.know p).succ) ((((HB.out.2.below hb8).set gp _ hp _).set gp _ hp _).set gp _ hp _) hlen hk32 id p HV.out.2.2 hpo (some ⟨gg, 0, none⟩) cap rfl 3 (((hL0.setCell hgp _).setCell hgp _).setCell hgp _) ?_ ?_ (fun z hz => .inr ?_) (fun h => by cases h)⟩
                      · rcases hrow.2 with ⟨h0, _⟩ | ⟨g', cap', cur, hv, _, _, hn, _, _⟩
                        · cases h0
                        · simp only [Value.slice.injEq] at hv; omega
                      · rcases hrow.2 with ⟨h0, _⟩ | ⟨g', cap', cur, hv, _, _, hn, hm, _⟩
                        · cases h0
                        · simp only [Value.slice.injEq] at hv; unfold maxLen at hm; omega
                      · obtain rfl := Option.some.inj hz
                        show gp < gg
                        omega
                    have HE : Hid _ := hfin
                    clear hfin HC HB o0 o1 o2 o3 ol k0 k1 k2 e0 e1 e2 u2 HNEWS HNW hnl hone HI64
                    obtain ⟨b0, b1, b2, b3, blt⟩ := c4_block HE.out.1.box
                    obtain ⟨s0, s1, s2, s3, sl⟩ := c4_block HE.out.1.res
                    have sf := fz_block HE.out.1.res
                    have ha := ans4 (RfO.toV HE.out.1.o HE.out.2) HE.out.1.bel HE.out.1.res ⟨_, _, _, rfl⟩ ⟨_, _, _, rfl⟩ ⟨_, _, _, rfl⟩ ⟨_, _, _, rfl⟩
                    have HAn : Hid _ := ha
                    clear ha
                    go_wp2
                    refine bodyPost_ret (v := .tuple #[.agg #[.slice (some ⟨gu, 0, none⟩) 32 cu, .slice (some ⟨gl, 0, none⟩) 32 cl, .slice (some ⟨gi, 0, none⟩) 32 ci, .slice (some ⟨gp, 0, none⟩) 32 cp], .int .i64 0]) (by simp [results, Tryz.results49, go_sem, s0, s1, s2, s3]) rfl ⟨_, by rw [E.out.1], by rw [E.out.2]; exact HAn.out.1, HAn.out.2⟩
              · have hiI : ¬ (i : Int) < 33 := by omega
                obtain rfl : i = 33 := by omega
                have E : Hid (R.joinC k id via' = 5 ∧ R.join k id via' = R) := by
                  have h1 := HR.out; have h2 := HU.out; have h3 := HVL.out; have h4 := HT.out
                  have h5 : R.ahead id via' = -1 := H.out.2.2.symm
                  have hc : R.joinC k id via' = 5 := by
                    unfold Rg.joinC
                    rw [if_neg h1, if_neg (by rw [h2]; simp), if_neg (by rw [h3]; simp), if_neg (by rw [h4]; simp), if_pos h5]
                  exact ⟨hc, by unfold Rg.join; rw [if_neg (by omega)]⟩
                obtain ⟨o0, o1, o2, o3, ol⟩ := c4_block hI.box
                obtain ⟨s0, s1, s2, s3, sl⟩ := c4_block hI.res
                have sf := fz_block hI.res
                have ha := ans4 (HV.out.1.below hbw) hbw hI.res ⟨_, _, _, rfl⟩ ⟨_, _, _, rfl⟩ ⟨_, _, _, rfl⟩ ⟨_, _, _, rfl⟩
                clear H hI hbw
                go_wp2
                refine bodyPost_ret (v := .tuple #[.agg #[.slice (some ⟨ub, uo, none⟩) 32 uc, .slice la 32 lc, .slice (some ⟨ib, io, none⟩) 32 ic, .slice (some ⟨pb, po, none⟩) 32 pc], .int .i64 5]) (by simp [results, Tryz.results49, go_sem, s0, s1, s2, s3]) rfl ⟨_, by rw [E.out.1], by rw [E.out.2]; exact ha.1, ha.2⟩
end Go.Proofs.YtgiiadjocfnhlabGreatDoor

/- Whom the document's New takes for the next ones. No program in sight. -/
namespace Go.Proofs.YtgiiadjocfnhlabGreatDoor
open Go.RowKit
set_option linter.unusedVariables false

def bhF (l : List Int) (x : Int) : Nat → Int
  | 0 => -1
  | k + 1 => if l.getD k 0 ≠ x ∧ (bhF l x k < 0 ∨ dist x (l.getD k 0) < dist x (l.getD (bhF l x k).toNat 0)) then (k : Int) else bhF l x k
theorem bhF_spec (l : List Int) (x : Int) (k : Nat) : (bhF l x k = -1 ∧ ∀ j, j < k → l.getD j 0 = x) ∨ (0 ≤ bhF l x k ∧ bhF l x k < k ∧ l.getD (bhF l x k).toNat 0 ≠ x ∧ ∀ j, j < k → l.getD j 0 ≠ x → dist x (l.getD (bhF l x k).toNat 0) ≤ dist x (l.getD j 0)) := by
  induction k with
  | zero => exact .inl ⟨rfl, fun j hj => absurd hj (Nat.not_lt_zero _)⟩
  | succ k ih =>
    unfold bhF
    by_cases hc : l.getD k 0 ≠ x ∧ (bhF l x k < 0 ∨ dist x (l.getD k 0) < dist x (l.getD (bhF l x k).toNat 0))
    · rw [if_pos hc]
      refine .inr ⟨by omega, by omega, by simpa using hc.1, fun j hj hne => ?_⟩
      simp only [Int.toNat_natCast]
      by_cases e : j = k
      · rw [e]; exact Int.le_refl _
      · rcases ih with ⟨_, h2⟩ | ⟨h1, h2, h3, h4⟩
        · exact absurd (h2 j (by omega)) hne
        · have := h4 j (by omega) hne
          rcases hc.2 with q | q
          · omega
          · omega
    · rw [if_neg hc]
      rcases ih with ⟨h1, h2⟩ | ⟨h1, h2, h3, h4⟩
      · refine .inl ⟨h1, fun j hj => ?_⟩
        by_cases e : j = k
        · rw [e]
          by_cases hx : l.getD k 0 = x
          · exact hx
          · exact absurd ⟨hx, .inl (by omega)⟩ hc
        · exact h2 j (by omega)
      · refine .inr ⟨h1, by omega, h3, fun j hj hne => ?_⟩
        by_cases e : j = k
        · rw [e] at hne ⊢
          rcases Int.lt_or_le (dist x (l.getD k 0)) (dist x (l.getD (bhF l x k).toNat 0)) with q | q
          · exact absurd ⟨hne, .inr q⟩ hc
          · exact q
        · exact h4 j (by omega) hne
end Go.Proofs.YtgiiadjocfnhlabGreatDoor

/- Rows of numbers that the call itself makes; wigwaglaw01.ids. -/
namespace Go.Proofs.YtgiiadjocfnhlabGreatDoor
open Go.ChangeShapes Go.WideShapes Go.ChangeAt Go.RowKit
set_option linter.unusedVariables false

/-- A row of numbers made since w. -/
structure Made (w wr : World) (v : Value) (l : List Int) : Prop where
  below : Below w.heap.size w wr
  row : wr.ownsRow w.heap.size 25 1 v l.length (l.map (Value.int .u64))
  shape : ∃ a c, v = .slice a l.length c
theorem Made.size {w wr : World} {v : Value} {l : List Int} (h : Made w wr v l) : w.heap.size ≤ wr.heap.size := h.below.size

theorem Tryz.infoU64 : (Tryz.prog.info? 25).map (fun i => (i.zero, i.size, i.bytes)) = some (some (.int .u64 0), 1, 8) := by kernel_rfl

theorem Made.ids {w wr : World} {a : Option Addr} {n c : Nat} {l : List Int} (h : Made w wr (.slice a n c) l) (hn : n = l.length) : IdsAt wr a n l := by
  subst hn
  refine ⟨rfl, ?_⟩
  rcases h.row.2 with ⟨e, h0⟩ | ⟨g, cap, cur, e, hB, hg, hc, hm, hs, ht⟩
  · exact .inl h0
  · cases e
    have r := row_of_cells hg l _ rfl (by simpa using ht)
    refine .inr ⟨g, 0, rfl, fun j hj => ?_⟩
    have q := (r j (by simpa using hj)).1
    rw [q]
    congr 2
    rw [getElem!_pos l.toArray j (by simpa using hj), List.getD_eq_getElem?_getD, List.getElem?_eq_getElem hj]
    simp

theorem Made.empty (w : World) : Made w (w.alloc (.cells #[] 25)) (.slice (some ⟨w.heap.size, 0, none⟩) 0 0) [] :=
  ⟨(Below.refl _ _).alloc (Nat.le_refl _) _, ⟨rfl, .inr ⟨w.heap.size, 0, #[], rfl, Nat.le_refl _, by have := heap_alloc_new w (.cells #[] 25); simpa using this, Nat.le_refl _, Nat.zero_le _, rfl, rfl⟩⟩, ⟨_, _, rfl⟩⟩

theorem src_u64 (wr : World) (x : Int) (c : Nat) : Src Tryz.prog 1 29 (.slice (some ⟨wr.heap.size, 0, none⟩) 1 c) 1 [.int .u64 x] (wr.alloc (.cells #[.int .u64 x] 25)) := by
  refine Src.ofSlice (e' := 25) _ Tryz.underlying29 _ 1 c _ rfl ?_ ?_
  · intro j u hu
    match j with
    | 0 => simp at hu; subst hu; simp [Addr.add, World.cell?_alloc_new]
    | j + 1 => simp at hu
  · intro u hu
    simp at hu; subst hu; rfl

theorem Made.app {w wr w1 : World} {o : Obj} {v v' : Value} {l : List Int} {x : Int} {n : Nat} (h : Made w wr v l) (hn : n = l.length + 1)
    (ha : Appended w.heap.size 25 (wr.alloc o) w1 v v' n (l.map (Value.int .u64) ++ [.int .u64 x])) : Made w w1 v' (l ++ [x]) := by
  subst hn
  refine ⟨below_of_grown (h.below.alloc h.size o) (by have := h.size; simp; omega) ha.grown (fun k hk => (h.row.lt k hk).1), ?_, ?_⟩
  · have := ha.row; simpa using this
  · have := ha.shape; simpa using this

end Go.Proofs.YtgiiadjocfnhlabGreatDoor

/- wigwagref01.Sorted: the numbers, rising, each once. -/
namespace Go.Proofs.YtgiiadjocfnhlabGreatDoor
open Go.ChangeShapes Go.WideShapes Go.ChangeAt Go.RowKit
set_option linter.unusedVariables false

def Above (t : List Int) (x : Int) : Prop := ∀ y, y ∈ t → y < x
theorem above_iff {t : List Int} {k : Nat} (hp : t.Pairwise (· < ·)) (hk : t.length = k) (h0 : 0 < k) (x : Int) : t.getD (k - 1) 0 < x ↔ Above t x := by
  subst hk
  have e : t.getD (t.length - 1) 0 = t[t.length - 1] := by rw [List.getD_eq_getElem?_getD, List.getElem?_eq_getElem (by omega)]; rfl
  rw [e]
  constructor
  · intro h y hy
    obtain ⟨i, hi, rfl⟩ := List.mem_iff_getElem.1 hy
    by_cases q : i = t.length - 1
    · subst q; exact h
    · exact Int.lt_trans (List.pairwise_iff_getElem.1 hp i (t.length - 1) hi (by omega) (by omega)) h
  · intro h
    exact h _ (List.getElem_mem _)

structure Sel (t l : List Int) : Prop where
  rising : t.Pairwise (· < ·)
  sub : ∀ y, y ∈ t → y ∈ l
  rest : ∀ x, x ∈ l → x ∈ t ∨ Above t x
theorem Sel.nil (l : List Int) : Sel [] l := ⟨List.Pairwise.nil, fun y hy => by simp at hy, fun x _ => .inr (fun y hy => by simp at hy)⟩
theorem Sel.len {t l : List Int} (h : Sel t l) : t.length ≤ l.length := nodup_len t l h.rising h.sub
theorem Sel.snoc {t l : List Int} (h : Sel t l) {m : Int} (hm : m ∈ l) (ha : Above t m) (hl : ∀ x, x ∈ l → Above t x → m ≤ x) : Sel (t ++ [m]) l := by
  refine ⟨?_, ?_, ?_⟩
  · rw [List.pairwise_append]
    exact ⟨h.rising, by simp, fun a ha' b hb => by simp at hb; subst hb; exact ha a ha'⟩
  · intro y hy
    rcases List.mem_append.1 hy with q | q
    · exact h.sub y q
    · simp at q; subst q; exact hm
  · intro x hx
    rcases h.rest x hx with q | q
    · exact .inl (by simp [q])
    · by_cases e : x = m
      · exact .inl (by simp [e])
      · refine .inr (fun y hy => ?_)
        rcases List.mem_append.1 hy with r | r
        · exact q y r
        · simp at r; subst r; have := hl x hx q; omega
theorem Sel.done {t l : List Int} (h : Sel t l) (hn : ∀ x, x ∈ l → ¬ Above t x) (x : Int) : x ∈ t ↔ x ∈ l :=
  ⟨h.sub x, fun hx => (h.rest x hx).resolve_right (hn x hx)⟩

structure Least (t l : List Int) (j : Nat) (f : Bool) (m : Int) : Prop where
  no : f = false → ∀ i, i < j → ¬ Above t (l.getD i 0)
  yes : f = true → m ∈ l ∧ Above t m ∧ ∀ i, i < j → Above t (l.getD i 0) → m ≤ l.getD i 0
theorem Least.start (t l : List Int) : Least t l 0 false 0 := ⟨fun _ i hi => by omega, fun h => by cases h⟩
theorem Least.skip {t l : List Int} {j : Nat} {f : Bool} {m : Int} (h : Least t l j f m) (hs : ¬ Above t (l.getD j 0)) : Least t l (j + 1) f m := by
  refine ⟨fun hf i hi => ?_, fun hf => ⟨(h.yes hf).1, (h.yes hf).2.1, fun i hi ha => ?_⟩⟩
  · by_cases e : i = j
    · subst e; exact hs
    · exact h.no hf i (by omega)
  · by_cases e : i = j
    · subst e; exact absurd ha hs
    · exact (h.yes hf).2.2 i (by omega) ha
theorem Least.first {t l : List Int} {j : Nat} {m : Int} (h : Least t l j false m) (hj : j < l.length) (hs : Above t (l.getD j 0)) : Least t l (j + 1) true (l.getD j 0) := by
  refine ⟨fun hf => (by cases hf), fun hf => ⟨?_, hs, fun i hi ha => ?_⟩⟩
  · rw [List.getD_eq_getElem?_getD, List.getElem?_eq_getElem hj]; simp
  · by_cases e : i = j
    · subst e; exact Int.le_refl _
    · exact absurd ha (h.no rfl i (by omega))
theorem Least.less {t l : List Int} {j : Nat} {m : Int} (h : Least t l j true m) (hj : j < l.length) (hs : Above t (l.getD j 0)) (hlt : l.getD j 0 < m) : Least t l (j + 1) true (l.getD j 0) := by
  refine ⟨fun hf => (by cases hf), fun hf => ⟨?_, hs, fun i hi ha => ?_⟩⟩
  · rw [List.getD_eq_getElem?_getD, List.getElem?_eq_getElem hj]; simp
  · by_cases e : i = j
    · subst e; exact Int.le_refl _
    · have := (h.yes rfl).2.2 i (by omega) ha; omega
theorem Least.stay {t l : List Int} {j : Nat} {m : Int} (h : Least t l j true m) (hge : ¬ l.getD j 0 < m) : Least t l (j + 1) true m := by
  refine ⟨fun hf => (by cases hf), fun hf => ⟨(h.yes rfl).1, (h.yes rfl).2.1, fun i hi ha => ?_⟩⟩
  by_cases e : i = j
  · subst e; omega
  · exact (h.yes rfl).2.2 i (by omega) ha
set_option maxHeartbeats 1000000 in
theorem refsorted_any (a : Option Addr) (n cap : Nat) (l : List Int) (w : World) (h : IdsAt w a n l) (hn : n ≤ 60) :
    Calls Tryz.prog 80 #[.slice a n cap] w fun e w' => ∃ v, e = .returned v ∧ ∃ S, Made w w' v S ∧ S.Pairwise (· < ·) ∧ (∀ x, x ∈ S ↔ x ∈ l) := by
  obtain ⟨i0, hi, hz0, hz1, hz2⟩ := info_parts' Tryz.infoU64
  have H0 : Hid (IdsAt w a n l) := h
  clear h
  go_enter Tryz.func80, Tryz.ntmps80
  go_wp2
  go_loopw [3, 4] (fun x y wr => ∃ (k : Nat) (t : List Int), t.length = k ∧ y = .int .i64 k ∧ Made w wr x t ∧ Sel t l) (fun _ y _ => n - (intOf y).toNat)
  case atStart => exact ⟨0, [], rfl, rfl, Made.empty w, Sel.nil l⟩
  case round =>
    obtain ⟨k, t, hkt, rfl, G, hS⟩ := hrel
    have hkn : k ≤ n := by have := hS.len; have := H0.out.1; omega
    obtain ⟨ua, uc, hu⟩ := G.shape
    rw [hkt] at hu
    subst hu
    have hsz := G.size
    have hlast : 0 < k → ∃ b o, ua = some ⟨b, o, none⟩ ∧ wr.cell? ⟨b, o + (k - 1), none⟩ = some (.int .u64 (t.getD (k - 1) 0)) := by
      intro h0
      rcases (G.ids hkt.symm).2 with e0 | ⟨b, o, e, hc⟩
      · omega
      · exact ⟨b, o, e, hc (k - 1) (by omega)⟩
    have HG : Hid (Made w wr (.slice ua k uc) t ∧ Sel t l ∧ t.length = k ∧ IdsAt wr a n l) := ⟨G, hS, hkt, H0.out.carry G.below⟩
    clear G hS hkt
    go_wp2
    go_loop [5, 6, 18] (fun f m j => ∃ (jj : Nat) (ff : Bool) (mm : Int), jj ≤ n ∧ j = .int .i64 jj ∧ f = .bool ff ∧ m = .int .u64 mm ∧ Least t l jj ff mm) (fun _ _ j => n - (intOf j).toNat)
    case atStart => exact ⟨0, false, 0, Nat.zero_le _, rfl, rfl, rfl, Least.start t l⟩
    case round =>
      obtain ⟨j, f, m, hj, rfl, rfl, rfl, hL⟩ := hrel
      have HL : Hid (Least t l j f m) := hL
      clear hL
      by_cases hlt : j < n
      · obtain ⟨b, o, ha, hc⟩ : ∃ b o, a = some ⟨b, o, none⟩ ∧ wr.cell? ⟨b, o + j, none⟩ = some (.int .u64 (l.getD j 0)) := by
          rcases HG.out.2.2.2.2 with h0 | ⟨b, o, ha, hc⟩
          · omega
          · exact ⟨b, o, ha, hc j hlt⟩
        have hjl : Hid (j < l.length) := by show _ < _; have := H0.out.1; omega
        obtain ⟨y, hy⟩ : ∃ y, y = l.getD j 0 := ⟨_, rfl⟩
        rw [← hy] at hc
        have HY : Hid (y = l.getD j 0) := hy
        clear hy
        subst ha
        by_cases h0 : k = 0
        · have HA : Hid (Above t y) := fun z hz => by
            have := HG.out.2.2.1
            rw [List.eq_nil_of_length_eq_zero (this.trans h0)] at hz
            simp at hz
          subst h0
          clear hlast
          cases f with
          | false =>
            go_wp2
            go_round
            case rel => exact ⟨j + 1, true, y, by omega, by go_num, rfl, rfl, by rw [HY.out]; exact HL.out.first hjl.out (by rw [← HY.out]; exact HA.out)⟩
            case measure => simp [intOf]; omega
          | true =>
            by_cases hm : y < m
            · go_wp2
              go_round
              case rel => exact ⟨j + 1, true, y, by omega, by go_num, rfl, rfl, by rw [HY.out]; exact HL.out.less hjl.out (by rw [← HY.out]; exact HA.out) (by rw [← HY.out]; exact hm)⟩
              case measure => simp [intOf]; omega
            · go_wp2
              go_round
              case rel => exact ⟨j + 1, true, m, by omega, by go_num, rfl, rfl, HL.out.stay (by rw [← HY.out]; exact hm)⟩
              case measure => simp [intOf]; omega
        · obtain ⟨bu, ou, hua, hcu⟩ := hlast (by omega)
          have hk0 : ((k : Int) == 0) = false := by simp; omega
          obtain ⟨u, hud⟩ : ∃ u, u = t.getD (k - 1) 0 := ⟨_, rfl⟩
          rw [← hud] at hcu
          have HU : Hid (u < y ↔ Above t y) := by rw [hud]; exact above_iff HG.out.2.1.rising HG.out.2.2.1 (by omega) y
          clear hud hlast
          subst hua
          by_cases hel : u < y
          · have HA : Hid (Above t y) := HU.out.1 hel
            cases f with
            | false =>
              go_wp2
              go_round
              case rel => exact ⟨j + 1, true, y, by omega, by go_num, rfl, rfl, by rw [HY.out]; exact HL.out.first hjl.out (by rw [← HY.out]; exact HA.out)⟩
              case measure => simp [intOf]; omega
            | true =>
              by_cases hm : y < m
              · go_wp2
                go_round
                case rel => exact ⟨j + 1, true, y, by omega, by go_num, rfl, rfl, by rw [HY.out]; exact HL.out.less hjl.out (by rw [← HY.out]; exact HA.out) (by rw [← HY.out]; exact hm)⟩
                case measure => simp [intOf]; omega
              · go_wp2
                go_round
                case rel => exact ⟨j + 1, true, m, by omega, by go_num, rfl, rfl, HL.out.stay (by rw [← HY.out]; exact hm)⟩
                case measure => simp [intOf]; omega
          · have HA : Hid (¬ Above t y) := fun q => hel (HU.out.2 q)
            go_wp2
            go_round
            case rel => exact ⟨j + 1, f, m, by omega, by go_num, rfl, rfl, HL.out.skip (by rw [← HY.out]; exact HA.out)⟩
            case measure => simp [intOf]; omega
      · have HJ : Hid (l.length = j) := by show _ = _; have := H0.out.1; omega
        clear hlast
        cases f with
        | false =>
          go_wp2
          go_ret
          refine ⟨_, rfl, t, HG.out.1, HG.out.2.1.rising, HG.out.2.1.done (fun x hx => ?_)⟩
          obtain ⟨i, hi, rfl⟩ := mem_getDr hx
          exact HL.out.no rfl i (by rw [← HJ.out]; exact hi)
        | true =>
          have hrow := HG.out.1.row.alloc (.cells #[.int .u64 m] 25)
          rw [HG.out.2.2.1] at hrow
          go_wp2_with (at_builtin; refine wpList_own_append _ rfl _ _ 29 29 rfl w.heap.size 25 i0 (.int .u64 0) 8 Tryz.underlying29 hi hz0 hz1 hz2 rfl _ _ _ rfl hrow _ 1 [.int .u64 m] rfl (src_u64 wr m _) ?c3 ?c4 ?c5 ?_)
          case c3 => unfold maxLen; omega
          case c4 => omega
          case c5 => first | omega | (simp; omega)
          intro v' w1 ha
          have G' := HG.out.1.app (by rw [HG.out.2.2.1]) ha
          have S' := HG.out.2.1.snoc (HL.out.yes rfl).1 (HL.out.yes rfl).2.1 (fun x hx hab => by
            obtain ⟨i, hi, rfl⟩ := mem_getDr hx
            exact (HL.out.yes rfl).2.2 i (by rw [← HJ.out]; exact hi) hab)
          have hk2 : k + 1 ≤ n := by have := S'.len; have := H0.out.1; have := HG.out.2.2.1; simp at *; omega
          clear ha hrow
          go_wp2
          go_roundw
          case rel => exact ⟨k + 1, t ++ [m], by simp [HG.out.2.2.1], by go_num, G', S'⟩
          case measure => simp [intOf]; omega
end Go.Proofs.YtgiiadjocfnhlabGreatDoor

/- The document's New: four rows that grow behind one box; behind. -/
namespace Go.Proofs.YtgiiadjocfnhlabGreatDoor
open Go.ChangeShapes Go.WideShapes Go.ChangeAt Go.RowKit Go.Deep
set_option linter.unusedVariables false

theorem bh_next {l : List Int} {x : Int} {c n : Int} (hc : 0 ≤ n ∧ n < 4) (hn : l.getD n.toNat 0 ≠ x) (hmin : ∀ m : Int, 0 ≤ m → m < 4 → m ≠ n → l.getD m.toNat 0 ≠ x → dist x (l.getD n.toNat 0) < dist x (l.getD m.toNat 0)) : bhF l x 4 = n := by
  rcases bhF_spec l x 4 with ⟨_, h2⟩ | ⟨h1, h2, h3, h4⟩
  · exact absurd (h2 n.toNat (by omega)) hn
  · by_cases e : bhF l x 4 = n
    · exact e
    · have q1 := hmin _ h1 h2 e h3
      have q2 := h4 n.toNat (by omega) hn
      omega
theorem dist_lt {x a b : Int} (hx : Plc x) (ha : Plc a) (hb : Plc b) (h : (x < a ∧ a < b) ∨ (b < x ∧ x < a) ∨ (a < b ∧ b < x)) : dist x a < dist x b := by
  unfold Plc at hx ha hb
  unfold dist
  omega
theorem Circ.bh {l C : List Int} {c0 c1 c2 c3 : Int} (h : Circ l C c0 c1 c2 c3) (hr : l.getD c0.toNat 0 < l.getD c1.toNat 0 ∧ l.getD c1.toNat 0 < l.getD c2.toNat 0 ∧ l.getD c2.toNat 0 < l.getD c3.toNat 0) (hu : ∀ k : Nat, Plc (l.getD k 0)) :
    bhF l (l.getD c0.toNat 0) 4 = c1 ∧ bhF l (l.getD c1.toNat 0) 4 = c2 ∧ bhF l (l.getD c2.toNat 0) 4 = c3 ∧ bhF l (l.getD c3.toNat 0) 4 = c0 := by
  have r := h.rng
  have hall := h.all
  have key : ∀ (x n : Int), n ∈ [c0, c1, c2, c3] → l.getD n.toNat 0 ≠ x → (∀ m ∈ [c0, c1, c2, c3], m ≠ n → l.getD m.toNat 0 ≠ x → dist x (l.getD n.toNat 0) < dist x (l.getD m.toNat 0)) → bhF l x 4 = n := fun x n hn hne hm =>
    bh_next (c := 0) (r n hn) hne (fun m h0 h1 h2 h3 => hm m (hall m h0 h1) h2 h3)
  have u0 := hu c0.toNat; have u1 := hu c1.toNat; have u2 := hu c2.toNat; have u3 := hu c3.toNat
  refine ⟨key _ c1 (by simp) (by omega) ?_, key _ c2 (by simp) (by omega) ?_, key _ c3 (by simp) (by omega) ?_, key _ c0 (by simp) (by omega) ?_⟩
  all_goals
    intro m hm h1 h2
    simp only [List.mem_cons, List.not_mem_nil, or_false] at hm
    rcases hm with rfl | rfl | rfl | rfl
    all_goals first
      | exact absurd rfl h1
      | exact absurd rfl h2
      | exact dist_lt (by assumption) (by assumption) (by assumption) (by omega)
def nx (l : List Int) (n : Int) : Int := bhF l (l.getD n.toNat 0) 4
/-- What New lets a base member know. -/
theorem new_kn {l C : List Int} {c0 c1 c2 c3 : Int} (h : Circ l C c0 c1 c2 c3) (hr : l.getD c0.toNat 0 < l.getD c1.toNat 0 ∧ l.getD c1.toNat 0 < l.getD c2.toNat 0 ∧ l.getD c2.toNat 0 < l.getD c3.toNat 0) (hu : ∀ k : Nat, Plc (l.getD k 0)) (n : Int) (h0 : 0 ≤ n) (h4 : n < 4) :
    (newTo l C 4).kn n = some ⟨l.getD n.toNat 0, nx l (nx l (nx l n)), [nx l n, nx l (nx l n), nx l (nx l (nx l n))]⟩ ∧ (0 ≤ nx l n ∧ nx l n < 4) ∧ (newTo l C 4).idOf n = l.getD n.toNat 0 ∧ ((newTo l C 4).pl n).isSome = true := by
  have hb := h.bh hr hu
  have hk := h.kn
  have hrg := h.rng
  have hp := newTo_pl l C 4
  have hl : ∀ x p, (newTo l C 4).kn x = some p → ((newTo l C 4).pl x).isSome = true := fun x p e => hp x (by simp [Rg.lives, e])
  have e0 : nx l c0 = c1 := hb.1
  have e1 : nx l c1 = c2 := hb.2.1
  have e2 : nx l c2 = c3 := hb.2.2.1
  have e3 : nx l c3 = c0 := hb.2.2.2
  have hm := h.all n h0 h4
  simp only [List.mem_cons, List.not_mem_nil, or_false] at hm
  rcases hm with rfl | rfl | rfl | rfl
  · rw [e0, e1, e2]; exact ⟨hk.1, hrg _ (by simp), hk.2.2.2.2.1, hl _ _ hk.1⟩
  · rw [e1, e2, e3]; exact ⟨hk.2.1, hrg _ (by simp), hk.2.2.2.2.2.1, hl _ _ hk.2.1⟩
  · rw [e2, e3, e0]; exact ⟨hk.2.2.1, hrg _ (by simp), hk.2.2.2.2.2.2.1, hl _ _ hk.2.2.1⟩
  · rw [e3, e0, e1]; exact ⟨hk.2.2.2.1, hrg _ (by simp), hk.2.2.2.2.2.2.2.1, hl _ _ hk.2.2.2.1⟩

/-- Four rows of one's own behind a box. -/
structure NwA (B : Nat) (w0 w : World) (b : Nat) (v0 v1 v2 v3 : Value) (U L : List Bool) (I : List Int) (P : List Pr3) : Prop where
  box : w.heap[b]? = some (.cells #[v0, v1, v2, v3] 34 (0, 0))
  u : w.ownsRow B 4 1 v0 U.length (bl U)
  l : w.ownsRow B 4 1 v1 L.length (bl L)
  i : w.ownsRow B 25 1 v2 I.length (ul I)
  p : w.ownsRow B 69 3 v3 P.length (pl3 P)
  a01 : ∀ g, v0.ownBlock = some g → v1.ownBlock ≠ some g
  a02 : ∀ g, v0.ownBlock = some g → v2.ownBlock ≠ some g
  a03 : ∀ g, v0.ownBlock = some g → v3.ownBlock ≠ some g
  a12 : ∀ g, v1.ownBlock = some g → v2.ownBlock ≠ some g
  a13 : ∀ g, v1.ownBlock = some g → v3.ownBlock ≠ some g
  a23 : ∀ g, v2.ownBlock = some g → v3.ownBlock ≠ some g
  lo : b < B
  b0 : w0.heap.size < b
  res : w.heap[w0.heap.size]? = some (.cells #[.slice none 0 0, .slice none 0 0, .slice none 0 0, .slice none 0 0] 34 (0, 0))
  bel : Below w0.heap.size w0 w
theorem NwA.below {B : Nat} {w0 w w' : World} {b : Nat} {v0 v1 v2 v3 : Value} {U L : List Bool} {I : List Int} {P : List Pr3} (h : NwA B w0 w b v0 v1 v2 v3 U L I P) (hb : Below w.heap.size w w') : NwA B w0 w' b v0 v1 v2 v3 U L I P :=
  ⟨(hb.block b (lt_of_block h.box)).trans h.box, row_below h.u hb, row_below h.l hb, row_below h.i hb, row_below h.p hb, h.a01, h.a02, h.a03, h.a12, h.a13, h.a23, h.lo, h.b0, (hb.block _ (lt_of_block h.res)).trans h.res, h.bel.trans (hb.mono h.bel.size)⟩
theorem NwA.app0 {B : Nat} {w0 w w1 : World} {b : Nat} {v0 v1 v2 v3 v' : Value} {U L : List Bool} {I : List Int} {P : List Pr3} {n : Nat} {xs : List Value} (h : NwA B w0 w b v0 v1 v2 v3 U L I P) (x : Bool) (hn : n = (U ++ [x]).length) (hxs : xs = bl (U ++ [x])) (ha : Appended B 4 w w1 v0 v' n xs) : NwA B w0 (w1.setCell ⟨b, 0, none⟩ v') b v' v1 v2 v3 (U ++ [x]) L I P := by
  subst hn hxs
  have hg := ha.grown
  have hlo := h.lo
  have hb0 := h.b0
  have hbl := lt_of_block h.box
  have hset : ∀ g, g ≠ b → (w1.setCell ⟨b, 0, none⟩ v').heap[g]? = w1.heap[g]? := fun g hg => Below.heap_setCell _ _ _ _ (by simpa using hg)
  have hold : ∀ g, g < w.heap.size → v0.ownBlock ≠ some g → w1.heap[g]? = w.heap[g]? := fun g h1 h2 => hg.block g h1 (Ne.symm h2)
  have hbb : w1.heap[b]? = w.heap[b]? := hold b hbl (fun e => by have := (h.u.lt b e).1; omega)
  have hoth : ∀ {k n : Nat} {e : TypeId} {vv : Value} {ys : List Value}, w.ownsRow B e k vv n ys → (∀ g, vv.ownBlock = some g → v0.ownBlock ≠ some g) → (w1.setCell ⟨b, 0, none⟩ v').ownsRow B e k vv n ys := fun hr hne => row_kept hr (fun g hgg => (hset g (by have := (hr.lt g hgg).1; omega)).trans (hold g (hr.lt g hgg).2 (hne g hgg)))
  have hnew : ∀ {k n : Nat} {e : TypeId} {vv : Value} {ys : List Value}, w.ownsRow B e k vv n ys → (∀ g, vv.ownBlock = some g → v0.ownBlock ≠ some g) → ∀ g, v'.ownBlock = some g → vv.ownBlock ≠ some g := fun hr hne g hgg hv => by
    rcases ha.new g hgg with q | q
    · exact hne g hv q
    · have := (hr.lt g hv).2; omega
  have hself : (w1.setCell ⟨b, 0, none⟩ v').ownsRow B 4 1 v' (U ++ [x]).length (bl (U ++ [x])) := row_kept ha.row (fun g hgg => hset g (by have := (ha.row.lt g hgg).1; omega))
  have hbel : Below w0.heap.size w0 (w1.setCell ⟨b, 0, none⟩ v') := (h.bel.trans ⟨hg.os, hg.tape, hg.output, hg.size, fun k hk => hold k (by omega) (fun e => by have := (h.u.lt k e).1; omega)⟩).setCell (by show w0.heap.size ≤ b; omega) _
  exact ⟨by simpa using bx_set (j := 0) (hbb.trans h.box) v', hself, hoth h.l (fun g h1 h2 => h.a01 g h2 h1), hoth h.i (fun g h1 h2 => h.a02 g h2 h1), hoth h.p (fun g h1 h2 => h.a03 g h2 h1), hnew h.l (fun g h1 h2 => h.a01 g h2 h1), hnew h.i (fun g h1 h2 => h.a02 g h2 h1), hnew h.p (fun g h1 h2 => h.a03 g h2 h1), h.a12, h.a13, h.a23, h.lo, h.b0, (hset _ (by omega)).trans ((hold _ (lt_of_block h.res) (fun e => by have := (h.u.lt _ e).1; omega)).trans h.res), hbel⟩
theorem NwA.app1 {B : Nat} {w0 w w1 : World} {b : Nat} {v0 v1 v2 v3 v' : Value} {U L : List Bool} {I : List Int} {P : List Pr3} {n : Nat} {xs : List Value} (h : NwA B w0 w b v0 v1 v2 v3 U L I P) (x : Bool) (hn : n = (L ++ [x]).length) (hxs : xs = bl (L ++ [x])) (ha : Appended B 4 w w1 v1 v' n xs) : NwA B w0 (w1.setCell ⟨b, 1, none⟩ v') b v0 v' v2 v3 U (L ++ [x]) I P := by
  subst hn hxs
  have hg := ha.grown
  have hlo := h.lo
  have hb0 := h.b0
  have hbl := lt_of_block h.box
  have hset : ∀ g, g ≠ b → (w1.setCell ⟨b, 1, none⟩ v').heap[g]? = w1.heap[g]? := fun g hg => Below.heap_setCell _ _ _ _ (by simpa using hg)
  have hold : ∀ g, g < w.heap.size → v1.ownBlock ≠ some g → w1.heap[g]? = w.heap[g]? := fun g h1 h2 => hg.block g h1 (Ne.symm h2)
  have hbb : w1.heap[b]? = w.heap[b]? := hold b hbl (fun e => by have := (h.l.lt b e).1; omega)
  have hoth : ∀ {k n : Nat} {e : TypeId} {vv : Value} {ys : List Value}, w.ownsRow B e k vv n ys → (∀ g, vv.ownBlock = some g → v1.ownBlock ≠ some g) → (w1.setCell ⟨b, 1, none⟩ v').ownsRow B e k vv n ys := fun hr hne => row_kept hr (fun g hgg => (hset g (by have := (hr.lt g hgg).1; omega)).trans (hold g (hr.lt g hgg).2 (hne g hgg)))
  have hnew : ∀ {k n : Nat} {e : TypeId} {vv : Value} {ys : List Value}, w.ownsRow B e k vv n ys → (∀ g, vv.ownBlock = some g → v1.ownBlock ≠ some g) → ∀ g, v'.ownBlock = some g → vv.ownBlock ≠ some g := fun hr hne g hgg hv => by
    rcases ha.new g hgg with q | q
    · exact hne g hv q
    · have := (hr.lt g hv).2; omega
  have hself : (w1.setCell ⟨b, 1, none⟩ v').ownsRow B 4 1 v' (L ++ [x]).length (bl (L ++ [x])) := row_kept ha.row (fun g hgg => hset g (by have := (ha.row.lt g hgg).1; omega))
  have hbel : Below w0.heap.size w0 (w1.setCell ⟨b, 1, none⟩ v') := (h.bel.trans ⟨hg.os, hg.tape, hg.output, hg.size, fun k hk => hold k (by omega) (fun e => by have := (h.l.lt k e).1; omega)⟩).setCell (by show w0.heap.size ≤ b; omega) _
  exact ⟨by simpa using bx_set (j := 1) (hbb.trans h.box) v', hoth h.u h.a01, hself, hoth h.i (fun g h1 h2 => h.a12 g h2 h1), hoth h.p (fun g h1 h2 => h.a13 g h2 h1), (fun g h1 h2 => hnew h.u h.a01 g h2 h1), h.a02, h.a03, hnew h.i (fun g h1 h2 => h.a12 g h2 h1), hnew h.p (fun g h1 h2 => h.a13 g h2 h1), h.a23, h.lo, h.b0, (hset _ (by omega)).trans ((hold _ (lt_of_block h.res) (fun e => by have := (h.l.lt _ e).1; omega)).trans h.res), hbel⟩
theorem NwA.app2 {B : Nat} {w0 w w1 : World} {b : Nat} {v0 v1 v2 v3 v' : Value} {U L : List Bool} {I : List Int} {P : List Pr3} {n : Nat} {xs : List Value} (h : NwA B w0 w b v0 v1 v2 v3 U L I P) (x : Int) (hn : n = (I ++ [x]).length) (hxs : xs = ul (I ++ [x])) (ha : Appended B 25 w w1 v2 v' n xs) : NwA B w0 (w1.setCell ⟨b, 2, none⟩ v') b v0 v1 v' v3 U L (I ++ [x]) P := by
  subst hn hxs
  have hg := ha.grown
  have hlo := h.lo
  have hb0 := h.b0
  have hbl := lt_of_block h.box
  have hset : ∀ g, g ≠ b → (w1.setCell ⟨b, 2, none⟩ v').heap[g]? = w1.heap[g]? := fun g hg => Below.heap_setCell _ _ _ _ (by simpa using hg)
  have hold : ∀ g, g < w.heap.size → v2.ownBlock ≠ some g → w1.heap[g]? = w.heap[g]? := fun g h1 h2 => hg.block g h1 (Ne.symm h2)
  have hbb : w1.heap[b]? = w.heap[b]? := hold b hbl (fun e => by have := (h.i.lt b e).1; omega)
  have hoth : ∀ {k n : Nat} {e : TypeId} {vv : Value} {ys : List Value}, w.ownsRow B e k vv n ys → (∀ g, vv.ownBlock = some g → v2.ownBlock ≠ some g) → (w1.setCell ⟨b, 2, none⟩ v').ownsRow B e k vv n ys := fun hr hne => row_kept hr (fun g hgg => (hset g (by have := (hr.lt g hgg).1; omega)).trans (hold g (hr.lt g hgg).2 (hne g hgg)))
  have hnew : ∀ {k n : Nat} {e : TypeId} {vv : Value} {ys : List Value}, w.ownsRow B e k vv n ys → (∀ g, vv.ownBlock = some g → v2.ownBlock ≠ some g) → ∀ g, v'.ownBlock = some g → vv.ownBlock ≠ some g := fun hr hne g hgg hv => by
    rcases ha.new g hgg with q | q
    · exact hne g hv q
    · have := (hr.lt g hv).2; omega
  have hself : (w1.setCell ⟨b, 2, none⟩ v').ownsRow B 25 1 v' (I ++ [x]).length (ul (I ++ [x])) := row_kept ha.row (fun g hgg => hset g (by have := (ha.row.lt g hgg).1; omega))
  have hbel : Below w0.heap.size w0 (w1.setCell ⟨b, 2, none⟩ v') := (h.bel.trans ⟨hg.os, hg.tape, hg.output, hg.size, fun k hk => hold k (by omega) (fun e => by have := (h.i.lt k e).1; omega)⟩).setCell (by show w0.heap.size ≤ b; omega) _
  exact ⟨by simpa using bx_set (j := 2) (hbb.trans h.box) v', hoth h.u h.a02, hoth h.l h.a12, hself, hoth h.p (fun g h1 h2 => h.a23 g h2 h1), h.a01, (fun g h1 h2 => hnew h.u h.a02 g h2 h1), h.a03, (fun g h1 h2 => hnew h.l h.a12 g h2 h1), h.a13, hnew h.p (fun g h1 h2 => h.a23 g h2 h1), h.lo, h.b0, (hset _ (by omega)).trans ((hold _ (lt_of_block h.res) (fun e => by have := (h.i.lt _ e).1; omega)).trans h.res), hbel⟩
theorem NwA.app3 {B : Nat} {w0 w w1 : World} {b : Nat} {v0 v1 v2 v3 v' : Value} {U L : List Bool} {I : List Int} {P : List Pr3} {n : Nat} {xs : List Value} (h : NwA B w0 w b v0 v1 v2 v3 U L I P) (x : Pr3) (hn : n = (P ++ [x]).length) (hxs : xs = pl3 (P ++ [x])) (ha : Appended3 B 69 w w1 v3 v' n xs) : NwA B w0 (w1.setCell ⟨b, 3, none⟩ v') b v0 v1 v2 v' U L I (P ++ [x]) := by
  subst hn hxs
  have hg := ha.grown
  have hlo := h.lo
  have hb0 := h.b0
  have hbl := lt_of_block h.box
  have hset : ∀ g, g ≠ b → (w1.setCell ⟨b, 3, none⟩ v').heap[g]? = w1.heap[g]? := fun g hg => Below.heap_setCell _ _ _ _ (by simpa using hg)
  have hold : ∀ g, g < w.heap.size → v3.ownBlock ≠ some g → w1.heap[g]? = w.heap[g]? := fun g h1 h2 => hg.block g h1 (Ne.symm h2)
  have hbb : w1.heap[b]? = w.heap[b]? := hold b hbl (fun e => by have := (h.p.lt b e).1; omega)
  have hoth : ∀ {k n : Nat} {e : TypeId} {vv : Value} {ys : List Value}, w.ownsRow B e k vv n ys → (∀ g, vv.ownBlock = some g → v3.ownBlock ≠ some g) → (w1.setCell ⟨b, 3, none⟩ v').ownsRow B e k vv n ys := fun hr hne => row_kept hr (fun g hgg => (hset g (by have := (hr.lt g hgg).1; omega)).trans (hold g (hr.lt g hgg).2 (hne g hgg)))
  have hnew : ∀ {k n : Nat} {e : TypeId} {vv : Value} {ys : List Value}, w.ownsRow B e k vv n ys → (∀ g, vv.ownBlock = some g → v3.ownBlock ≠ some g) → ∀ g, v'.ownBlock = some g → vv.ownBlock ≠ some g := fun hr hne g hgg hv => by
    rcases ha.new g hgg with q | q
    · exact hne g hv q
    · have := (hr.lt g hv).2; omega
  have hself : (w1.setCell ⟨b, 3, none⟩ v').ownsRow B 69 3 v' (P ++ [x]).length (pl3 (P ++ [x])) := row_kept ha.row (fun g hgg => hset g (by have := (ha.row.lt g hgg).1; omega))
  have hbel : Below w0.heap.size w0 (w1.setCell ⟨b, 3, none⟩ v') := (h.bel.trans ⟨hg.os, hg.tape, hg.output, hg.size, fun k hk => hold k (by omega) (fun e => by have := (h.p.lt k e).1; omega)⟩).setCell (by show w0.heap.size ≤ b; omega) _
  exact ⟨by simpa using bx_set (j := 3) (hbb.trans h.box) v', hoth h.u h.a03, hoth h.l h.a13, hoth h.i h.a23, hself, h.a01, h.a02, (fun g h1 h2 => hnew h.u h.a03 g h2 h1), h.a12, (fun g h1 h2 => hnew h.l h.a13 g h2 h1), (fun g h1 h2 => hnew h.i h.a23 g h2 h1), h.lo, h.b0, (hset _ (by omega)).trans ((hold _ (lt_of_block h.res) (fun e => by have := (h.p.lt _ e).1; omega)).trans h.res), hbel⟩
theorem bl_snoc (U : List Bool) (x : Bool) : bl U ++ [.bool x] = bl (U ++ [x]) := by simp [bl]
theorem ul_snoc (U : List Int) (x : Int) : ul U ++ [.int .u64 x] = ul (U ++ [x]) := by simp [ul]
theorem pl_snoc (P : List Pr3) (x : Pr3) : pl3 P ++ x.cells = pl3 (P ++ [x]) := by simp [pl3]
theorem NwA.setI {B : Nat} {w0 w : World} {b : Nat} {v0 v1 v3 : Value} {gi ci : Nat} {U L : List Bool} {I : List Int} {P : List Pr3} (h : NwA B w0 w b v0 v1 (.slice (some ⟨gi, 0, none⟩) I.length ci) v3 U L I P) (k : Nat) (x : Int) : NwA B w0 (w.setCell ⟨gi, k, none⟩ (.int .u64 x)) b v0 v1 (.slice (some ⟨gi, 0, none⟩) I.length ci) v3 U L (I.set k x) P := by
  have hB := (h.i.lt gi rfl).1
  have hlo := h.lo
  have hb0 := h.b0
  have hs := (h.i.stored k (.int .u64 x)).1
  rw [ul_set] at hs
  have ho : ∀ g, g ≠ gi → (w.setCell ⟨gi, k, none⟩ (.int .u64 x)).heap[g]? = w.heap[g]? := fun g hg => Below.heap_setCell _ _ _ _ (by simpa using hg)
  exact ⟨(ho b (by omega)).trans h.box, row_kept h.u (fun g hg => ho g (fun e => h.a02 g hg (by rw [e]; rfl))), row_kept h.l (fun g hg => ho g (fun e => h.a12 g hg (by rw [e]; rfl))), by rw [List.length_set]; exact hs, row_kept h.p (fun g hg => ho g (fun e => h.a23 gi rfl (by rw [← e]; exact hg))), h.a01, h.a02, h.a03, h.a12, h.a13, h.a23, h.lo, h.b0, (ho _ (by omega)).trans h.res, h.bel.setCell (by show w0.heap.size ≤ gi; omega) _⟩
theorem NwA.setP {B : Nat} {w0 w : World} {b : Nat} {v0 v1 v2 : Value} {gp cp : Nat} {U L : List Bool} {I : List Int} {P : List Pr3} (h : NwA B w0 w b v0 v1 v2 (.slice (some ⟨gp, 0, none⟩) P.length cp) U L I P) {k j : Nat} (hk : k < P.length) (hj : j < 3) (u : Value) (q : Pr3) (hq : q.cells = (P.getD k pr30).cells.set j u) : NwA B w0 (w.setCell ⟨gp, k * 3 + j, none⟩ u) b v0 v1 v2 (.slice (some ⟨gp, 0, none⟩) (P.set k q).length cp) U L I (P.set k q) := by
  have hB := (h.p.lt gp rfl).1
  have hlo := h.lo
  have hb0 := h.b0
  have hs := (h.p.stored (k * 3 + j) u).1
  rw [pl3_set P k j hk hj u q hq] at hs
  have ho : ∀ g, g ≠ gp → (w.setCell ⟨gp, k * 3 + j, none⟩ u).heap[g]? = w.heap[g]? := fun g hg => Below.heap_setCell _ _ _ _ (by simpa using hg)
  rw [List.length_set]
  exact ⟨(ho b (by omega)).trans h.box, row_kept h.u (fun g hg => ho g (fun e => h.a03 g hg (by rw [e]; rfl))), row_kept h.l (fun g hg => ho g (fun e => h.a13 g hg (by rw [e]; rfl))), row_kept h.i (fun g hg => ho g (fun e => h.a23 g hg (by rw [e]; rfl))), by rw [List.length_set]; exact hs, h.a01, h.a02, h.a03, h.a12, h.a13, h.a23, h.lo, h.b0, (ho _ (by omega)).trans h.res, h.bel.setCell (by show w0.heap.size ≤ gp; omega) _⟩
end Go.Proofs.YtgiiadjocfnhlabGreatDoor

/- wigwagref10.behind. -/
namespace Go.Proofs.YtgiiadjocfnhlabGreatDoor
open Go.ChangeShapes Go.WideShapes Go.ChangeAt Go.RowKit Go.Deep
set_option linter.unusedVariables false

set_option maxRecDepth 100000 in
set_option maxHeartbeats 4000000 in
theorem rbehind_r (a : Option Addr) (cap : Nat) (l : List Int) (x : Int) (w : World) (h : IdIn w a 4 l) (hx : 0 ≤ x ∧ x ≤ 18446744073709551615) :
    Calls Tryz.prog 81 #[.slice a 4 cap, .int .u64 x] w fun e w' => e = .returned (.int .i64 (bhF l x 4)) ∧ Below w.heap.size w w' := by
  have HI : Hid (IdIn w a 4 l ∧ (0 ≤ x ∧ x ≤ 18446744073709551615)) := ⟨h, hx⟩
  clear h hx
  go_enter Tryz.func81, Tryz.ntmps81
  go_wp2
  go_loopg [10, 5] 4 (fun kx s bs wr => ∃ j : Nat, s = .int .i64 j ∧ bs = .int .i64 (bhF l x j) ∧ j ≤ 4 ∧ kx = 4 - j ∧ Hid (Below w.heap.size w wr))
  case atStart => exact ⟨0, rfl, rfl, Nat.zero_le _, rfl, (Below.refl _ _ : Below w.heap.size w w)⟩
  case round =>
    obtain ⟨j, rfl, rfl, hj, rfl, HB⟩ := hrel
    by_cases hlt : j < 4
    · have hj0 : (0 : Int) ≤ (j : Int) := Int.natCast_nonneg _
      have hj1 : (j : Int) < 4 := by omega
      obtain ⟨b, o, ha, hb, hy, hc⟩ := (HI.out.1.below (Nat.le_refl _) HB.out).one (v := Value.int .u64) (fun _ => rfl) (i := j) hlt
      subst ha
      have hsp := bhF_spec l x j
      have hst : bhF l x (j + 1) = if l.getD j 0 ≠ x ∧ (bhF l x j < 0 ∨ dist x (l.getD j 0) < dist x (l.getD (bhF l x j).toNat 0)) then (j : Int) else bhF l x j := rfl
      have HST : Hid _ := hst
      clear hst
      obtain ⟨y, hyy⟩ : ∃ y, y = l.getD j 0 := ⟨_, rfl⟩
      have HY : Hid (y = l.getD j 0 ∧ (0 ≤ y ∧ y ≤ 18446744073709551615)) := ⟨hyy, by rw [hyy]; exact hy⟩
      rw [← hyy] at hc
      clear hy
      by_cases he : y = x
      · have ee : (y != x) = false := by simp [he]
        have HN : Hid (bhF l x (j + 1) = bhF l x j) := by
          show bhF l x (j + 1) = bhF l x j
          rw [HST.out, if_neg (fun q => q.1 (by rw [← hyy]; exact he))]
        clear hsp HST hyy he
        generalize bhF l x j = bj at HN ⊢
        go_wp2_with (go_quiet (fail))
        go_roundg (4 - (j + 1))
        case measure => omega
        case rel => exact ⟨j + 1, by go_num, by rw [HN.out], by omega, rfl, below_drew HB.out _⟩
      · have ee : (y != x) = true := by simpa using he
        rcases hsp with ⟨h1, _⟩ | ⟨h1, h2, h3, _⟩
        · have HN : Hid (bhF l x (j + 1) = j) := by
            show bhF l x (j + 1) = (j : Int)
            rw [HST.out, if_pos ⟨by rw [← hyy]; exact he, .inl (by omega)⟩]
          rw [h1]
          clear HST hyy he h1
          have e2 : ((-1 : Int) < 0) := by omega
          go_wp2_with (go_quiet (fail))
          go_roundg (4 - (j + 1))
          case measure => omega
          case rel => exact ⟨j + 1, by go_num, by rw [HN.out], by omega, rfl, below_drew HB.out _⟩
        · obtain ⟨q, hq⟩ : ∃ q : Nat, bhF l x j = q := ⟨(bhF l x j).toNat, by omega⟩
          have hqj : q < j := by omega
          have hqI : (0 : Int) ≤ (q : Int) ∧ (q : Int) < 4 := by omega
          have hqn : ¬ (q : Int) < 0 := by omega
          have hqd : decide ((q : Int) < 0) = false := by simp
          obtain ⟨b', o', ha', hb', hz, hc'⟩ := (HI.out.1.below (Nat.le_refl _) HB.out).one (v := Value.int .u64) (fun _ => rfl) (i := q) (by omega)
          simp only [Option.some.injEq, Addr.mk.injEq, and_true] at ha'
          obtain ⟨rfl, rfl⟩ := ha'
          obtain ⟨z, hzz⟩ : ∃ z, z = l.getD q 0 := ⟨_, rfl⟩
          have HZ : Hid (0 ≤ z ∧ z ≤ 18446744073709551615) := by rw [hzz]; exact hz
          rw [← hzz] at hc'
          rw [hq, Int.toNat_natCast, ← hzz, ← hyy] at HST
          rw [hq]
          clear hz h1 h2 h3 hq hyy hzz
          by_cases hd : dist x y < dist x z
          · have HN : Hid (bhF l x (j + 1) = j) := by
              show bhF l x (j + 1) = (j : Int)
              rw [HST.out, if_pos ⟨he, .inr hd⟩]
            clear HST he
            go_wp2_with (go_quiet ((go_at_call 102; first | exact Calls.quiet_of_same (refdist_any _ _ _ HI.out.2 HY.out.2) | exact Calls.quiet_of_same (refdist_any _ _ _ HI.out.2 HZ.out))))
            go_roundg (4 - (j + 1))
            case measure => omega
            case rel => exact ⟨j + 1, by go_num, by rw [HN.out], by omega, rfl, below_drew HB.out _⟩
          · have HN : Hid (bhF l x (j + 1) = q) := by
              show bhF l x (j + 1) = (q : Int)
              rw [HST.out, if_neg (fun hh => hh.2.elim (fun h => hqn h) (fun h => hd h))]
            clear HST he
            go_wp2_with (go_quiet ((go_at_call 102; first | exact Calls.quiet_of_same (refdist_any _ _ _ HI.out.2 HY.out.2) | exact Calls.quiet_of_same (refdist_any _ _ _ HI.out.2 HZ.out))))
            go_roundg (4 - (j + 1))
            case measure => omega
            case rel => exact ⟨j + 1, by go_num, by rw [HN.out], by omega, rfl, below_drew HB.out _⟩
    · obtain rfl : j = 4 := by omega
      go_wp2
      go_ret
      exact ⟨rfl, HB.out⟩
end Go.Proofs.YtgiiadjocfnhlabGreatDoor

/- What the document's New leaves. -/
namespace Go.Proofs.YtgiiadjocfnhlabGreatDoor
open Go.ChangeShapes Go.WideShapes Go.ChangeAt Go.RowKit Go.Deep
set_option linter.unusedVariables false

def itn (l : List Int) (n : Int) : Nat → Int
  | 0 => n
  | j + 1 => nx l (itn l n j)
def lst (l : List Int) (n : Int) : Nat → List Int
  | 0 => []
  | j + 1 => lst l n j ++ [itn l n (j + 1)]
theorem lst_len (l : List Int) (n : Int) (j : Nat) : (lst l n j).length = j := by
  induction j with
  | zero => rfl
  | succ j ih => simp [lst, ih]
theorem itn_rng {l : List Int} (h : ∀ n, 0 ≤ n → n < 4 → 0 ≤ nx l n ∧ nx l n < 4) {n : Int} (h0 : 0 ≤ n) (h4 : n < 4) (j : Nat) : 0 ≤ itn l n j ∧ itn l n j < 4 := by
  induction j with
  | zero => exact ⟨h0, h4⟩
  | succ j ih => exact h _ ih.1 ih.2
theorem lst_ok {l : List Int} (h : ∀ n, 0 ≤ n → n < 4 → 0 ≤ nx l n ∧ nx l n < 4) {n : Int} (h0 : 0 ≤ n) (h4 : n < 4) (j : Nat) : ∀ x ∈ lst l n j, i64 x := by
  induction j with
  | zero => intro x hx; cases hx
  | succ j ih =>
    intro x hx
    rcases List.mem_append.1 hx with q | q
    · exact ih x q
    · simp at q
      have := itn_rng h h0 h4 (j + 1)
      rw [q]; unfold i64; omega

/-- A member's list that grows in its box. -/
structure In4 (wr wq : World) (id : Int) (vS : Value) (l : List Int) (n : Int) (j : Nat) : Prop where
  box : wq.heap[wr.heap.size]? = some (.cells #[.int .u64 id, .int .i64 (-1), vS] 69 (0, 0))
  row : wq.ownsRow (wr.heap.size + 1) 3 1 vS j ((lst l n j).map cellI)
  bel : Below wr.heap.size wr wq
theorem In4.below {wr wq wq' : World} {id : Int} {vS : Value} {l : List Int} {n : Int} {j : Nat} (h : In4 wr wq id vS l n j) (hb : Below wq.heap.size wq wq') : In4 wr wq' id vS l n j :=
  ⟨(hb.block _ (lt_of_block h.box)).trans h.box, row_below h.row hb, h.bel.trans (hb.mono h.bel.size)⟩
theorem In4.app {wr wq w3 : World} {id y : Int} {vS v' : Value} {l : List Int} {n : Int} {j : Nat} (h : In4 wr wq id vS l n j) (hy : y = itn l n (j + 1)) (ha : Appended (wr.heap.size + 1) 3 wq w3 vS v' (j + 1) ((lst l n j).map cellI ++ [cellI y])) : In4 wr (w3.setCell ⟨wr.heap.size, 2, none⟩ v') id v' l n (j + 1) := by
  subst hy
  have hg := ha.grown
  have hbl := lt_of_block h.box
  have hq : w3.heap[wr.heap.size]? = wq.heap[wr.heap.size]? := hg.block _ hbl (fun e => by have := (h.row.lt _ e.symm).1; omega)
  refine ⟨by simpa using bx_set (j := 2) (hq.trans h.box) v', ?_, ?_⟩
  · have hr : w3.ownsRow (wr.heap.size + 1) 3 1 v' (j + 1) ((lst l n (j + 1)).map cellI) := by
      have := ha.row
      simpa [lst] using this
    exact row_kept hr (fun g hgg => Below.heap_setCell _ _ _ _ (by have := (hr.lt g hgg).1; simp; omega))
  · exact (h.bel.trans ⟨hg.os, hg.tape, hg.output, hg.size, fun k hk => hg.block k (by omega) (fun e => by have := (h.row.lt _ e.symm).1; omega)⟩).setCell (by show wr.heap.size ≤ wr.heap.size; omega) _
theorem In4.start (wr : World) (id : Int) (l : List Int) (n : Int) : In4 wr (wr.alloc (.cells #[.int .u64 id, .int .i64 (-1), .slice none 0 0] 69)) id (.slice none 0 0) l n 0 :=
  ⟨heap_alloc_new wr _, World.ownsRow_nil _ _ _ 1, below_one _ _⟩

/-- The lists that are laid. -/
def LsD (T : Nat) (w : World) (l : List Int) (P : List Pr3) (k : Nat) : Prop := ∀ n : Nat, n < k → ∃ g c, P.getD n pr30 = ⟨l.getD n 0, itn l n 3, some ⟨g, 0, none⟩, 3, c⟩ ∧ InIn w (some ⟨g, 0, none⟩) 3 (lst l n 3) ∧ T ≤ g ∧ 3 ≤ c ∧ c ≤ 9223372036854775807
theorem LsD.below {T : Nat} {w w' : World} {l : List Int} {P : List Pr3} {k : Nat} (h : LsD T w l P k) (hb : Below w.heap.size w w') : LsD T w' l P k := fun n hn => by
  obtain ⟨g, c, h1, h2, h3⟩ := h n hn
  exact ⟨g, c, h1, h2.below (Nat.le_refl _) hb, h3⟩
theorem LsD.set {T : Nat} {w : World} {l : List Int} {P : List Pr3} {k : Nat} (h : LsD T w l P k) {p : Nat} (hp : p < T) (o : Nat) (u : Value) : LsD T (w.setCell ⟨p, o, none⟩ u) l P k := fun n hn => by
  obtain ⟨g, c, h1, h2, h3⟩ := h n hn
  exact ⟨g, c, h1, h2.setCell (fun x hx => by cases hx; show g ≠ p; omega) u, h3⟩
theorem LsD.step {T : Nat} {w : World} {l : List Int} {P : List Pr3} {k : Nat} (h : LsD T w l P k) (hk : k < P.length) {g c : Nat} (hi : InIn w (some ⟨g, 0, none⟩) 3 (lst l k 3)) (hg : T ≤ g) (hc : 3 ≤ c ∧ c ≤ 9223372036854775807) : LsD T w l (P.set k ⟨l.getD k 0, itn l k 3, some ⟨g, 0, none⟩, 3, c⟩) (k + 1) := fun n hn => by
  by_cases e : n = k
  · subst e
    exact ⟨g, c, by simp [List.getD, hk], hi, hg, hc⟩
  · obtain ⟨g', c', h1, h2⟩ := h n (by omega)
    refine ⟨g', c', ?_, h2⟩
    rw [← h1]
    simp [List.getD, Ne.symm e]
theorem NwA.set3 {B : Nat} {w0 w : World} {b : Nat} {v0 v1 v2 : Value} {gp cp : Nat} {U L : List Bool} {I : List Int} {P : List Pr3} (h : NwA B w0 w b v0 v1 v2 (.slice (some ⟨gp, 0, none⟩) P.length cp) U L I P) {k : Nat} (hk : k < P.length) (q : Pr3) : NwA B w0 (((w.setCell ⟨gp, k * 3, none⟩ (.int .u64 q.id)).setCell ⟨gp, k * 3 + 1, none⟩ (.int .i64 q.pred)).setCell ⟨gp, k * 3 + 2, none⟩ (.slice q.a q.len q.cap)) b v0 v1 v2 (.slice (some ⟨gp, 0, none⟩) P.length cp) U L I (P.set k q) := by
  have e0 : P.getD k pr30 = P[k] := by simp [List.getD, hk]
  have h1 := h.setP (k := k) (j := 0) hk (by omega) (.int .u64 q.id) ⟨q.id, P[k].pred, P[k].a, P[k].len, P[k].cap⟩ (by rw [e0]; rfl)
  have h2 := h1.setP (k := k) (j := 1) (by rw [List.length_set]; exact hk) (by omega) (.int .i64 q.pred) ⟨q.id, q.pred, P[k].a, P[k].len, P[k].cap⟩ (by simp [List.getD, hk, Pr3.cells])
  have h3 := h2.setP (k := k) (j := 2) (by simp [hk]) (by omega) (.slice q.a q.len q.cap) q (by simp [List.getD, hk, Pr3.cells])
  simpa using h3

def b4 (j : Nat) : List Bool := (List.range j).map fun k => decide (k < 4)
def i4 (l : List Int) (j : Nat) : List Int := (List.range 32).map fun k => if k < j then l.getD k 0 else 0
theorem b4_succ (j : Nat) : b4 j ++ [decide ((j : Int) < 4)] = b4 (j + 1) := by
  have e : decide ((j : Int) < 4) = decide (j < 4) := by
    rw [decide_eq_decide]; omega
  rw [e]; simp [b4, List.range_succ]
theorem b4_len (j : Nat) : (b4 j).length = j := by simp [b4]
theorem i4_len (l : List Int) (j : Nat) : (i4 l j).length = 32 := by simp [i4]
theorem i4_zero (l : List Int) : i4 l 0 = List.replicate 32 0 := by
  refine List.eq_replicate_iff.2 ⟨i4_len l 0, fun x hx => ?_⟩
  obtain ⟨k, _, rfl⟩ := List.mem_map.1 hx
  simp
theorem i4_set (l : List Int) (j : Nat) (hj : j < 32) : (i4 l j).set j (l.getD j 0) = i4 l (j + 1) := by
  apply List.ext_getElem (by simp [i4])
  intro k h1 h2
  simp only [i4, List.getElem_set, List.getElem_map, List.getElem_range]
  by_cases e : j = k
  · rw [if_pos e, if_pos (by omega), e]
  · rw [if_neg e]
    by_cases q : k < j
    · rw [if_pos q, if_pos (by omega)]
    · rw [if_neg q, if_neg (by omega)]
theorem new_rows {l S : List Int} {c0 c1 c2 c3 : Int} (h : Circ l (circleOf l S) c0 c1 c2 c3) (hp : S.Pairwise (· < ·)) (hm : ∀ x, x ∈ S ↔ x ∈ l) (hu : ∀ k : Nat, Plc (l.getD k 0)) :
    usL (newTo l (circleOf l S) 4) = b4 32 ∧ lvL (newTo l (circleOf l S) 4) = b4 32 ∧ idL (newTo l (circleOf l S) 4) = i4 l 4 ∧ ∀ k : Nat, k < 32 → ∀ x, (newTo l (circleOf l S) 4).kn k = some x → k < 4 ∧ x = ⟨l.getD k 0, itn l k 3, lst l k 3⟩ := by
  have hkn := fun n h0 h4 => new_kn h (h.rise hp hm) hu n h0 h4
  have hkN := h.kn.2.2.2.2.2.2.2.2
  have hplX : ∀ n, n ∉ [c0, c1, c2, c3] → (newTo l (circleOf l S) 4).pl n = none := fun n hn => by
    rw [h.eq]
    simp only [List.mem_cons, List.not_mem_nil, or_false, not_or] at hn
    simp [newTo, Rg.setK, Rg.setP, upd, rg0, hn.1, hn.2.1, hn.2.2.1, hn.2.2.2]
  have hout : ∀ k : Nat, ¬ k < 4 → (k : Int) ∉ [c0, c1, c2, c3] := fun k hk hq => by have := h.rng _ hq; omega
  generalize newTo l (circleOf l S) 4 = R at *
  refine ⟨?_, ?_, ?_, fun k hk x hx => ?_⟩
  · apply List.ext_getElem (by simp [usL, b4])
    intro k h1 h2
    simp only [usL, b4, List.getElem_map, List.getElem_range]
    by_cases q : k < 4
    · rw [(hkn k (by omega) (by omega)).2.2.2]; simp [q]
    · rw [hplX _ (hout k q)]; simp [q]
  · apply List.ext_getElem (by simp [lvL, b4])
    intro k h1 h2
    simp only [lvL, b4, List.getElem_map, List.getElem_range]
    by_cases q : k < 4
    · simp [Rg.lives, (hkn k (by omega) (by omega)).1, q]
    · simp [Rg.lives, hkN _ (hout k q), q]
  · apply List.ext_getElem (by simp [idL, i4])
    intro k h1 h2
    simp only [idL, i4, List.getElem_map, List.getElem_range]
    by_cases q : k < 4
    · rw [(hkn k (by omega) (by omega)).2.2.1, if_pos q]; simp
    · rw [if_neg q]; simp [Rg.idOf, hplX _ (hout k q)]
  · by_cases q : k < 4
    · refine ⟨q, ?_⟩
      rw [(hkn k (by omega) (by omega)).1] at hx
      simp only [Option.some.injEq] at hx
      rw [← hx]; rfl
    · rw [hkN _ (hout k q)] at hx; cases hx
theorem NwA.toV {B T : Nat} {w0 w : World} {b gu cu gl cl gi ci gp cp : Nat} {P : List Pr3} {l S : List Int} {c0 c1 c2 c3 : Int} (hc : Circ l (circleOf l S) c0 c1 c2 c3) (hp : S.Pairwise (· < ·)) (hm : ∀ x, x ∈ S ↔ x ∈ l) (hu : ∀ k : Nat, Plc (l.getD k 0)) (hP : P.length = 32) (hPo : ∀ x ∈ P, x.ok)
    (h : NwA B w0 w b (.slice (some ⟨gu, 0, none⟩) 32 cu) (.slice (some ⟨gl, 0, none⟩) 32 cl) (.slice (some ⟨gi, 0, none⟩) 32 ci) (.slice (some ⟨gp, 0, none⟩) 32 cp) (b4 32) (b4 32) (i4 l 4) P) (hd : LsD T w l P 4) :
    RfV w (newTo l (circleOf l S) 4) (.agg #[.slice (some ⟨gu, 0, none⟩) 32 cu, .slice (some ⟨gl, 0, none⟩) 32 cl, .slice (some ⟨gi, 0, none⟩) 32 ci, .slice (some ⟨gp, 0, none⟩) 32 cp]) := by
  obtain ⟨e1, e2, e3, e4⟩ := new_rows hc hp hm hu
  have hkn := fun n h0 h4 => new_kn hc (hc.rise hp hm) hu n h0 h4
  have r0 := h.u; have r1 := h.l; have r2 := h.i; have r3 := h.p
  rw [b4_len] at r0 r1
  rw [i4_len] at r2
  rw [hP] at r3
  have hio : ∀ x ∈ i4 l 4, u64 x := by
    intro x hx
    obtain ⟨k, _, rfl⟩ := List.mem_map.1 hx
    split
    · have := hu k; unfold Plc at this; unfold u64; omega
    · unfold u64; omega
  refine ⟨_, _, _, _, _, _, _, _, P, rfl, by rw [e1]; exact own_inB r0, by rw [e2]; exact own_inB r1, by rw [e3]; exact own_inU r2 hio, own_inP r3 hPo, fun k hk x hx => ?_⟩
  · obtain ⟨q, rfl⟩ := e4 k hk x hx
    obtain ⟨g, c, h1, h2, h3, h4, h5⟩ := hd k q
    rw [h1]
    have hr := itn_rng (fun n h0 h4 => (hkn n h0 h4).2.1) (n := (k : Int)) (by omega) (by omega) 3
    have hk := hu k
    exact ⟨rfl, rfl, by unfold Plc at hk; unfold u64; omega, by show i64 (itn l k 3); unfold i64; omega, h2, h4, h5, fun e => by cases e⟩
end Go.Proofs.YtgiiadjocfnhlabGreatDoor

/- wigwagref10.New. -/
namespace Go.Proofs.YtgiiadjocfnhlabGreatDoor
open Go.ChangeShapes Go.WideShapes Go.ChangeAt Go.RowKit Go.Deep
set_option linter.unusedVariables false

def rf0 : Value := .agg #[.slice none 0 0, .slice none 0 0, .slice none 0 0, .slice none 0 0]
set_option maxRecDepth 100000 in
set_option maxHeartbeats 4000000 in
theorem rnew_len (a : Option Addr) (n cap : Nat) (w : World) (hn : n ≠ 4) (hm : n ≤ 9223372036854775807) :
    Calls Tryz.prog 44 #[.slice a n cap] w fun e w' => e = .returned (.tuple #[rf0, .int .i64 1]) ∧ Below w.heap.size w w' := by
  have q : ((n : Int) != 4) = true := by simp; omega
  go_enter Tryz.func44, Tryz.ntmps44
  go_wp2
  refine bodyPost_ret (v := .tuple #[rf0, .int .i64 1]) (by simp [results, Tryz.results44, go_sem, rf0]) rfl ⟨rfl, below_one _ _⟩

theorem NwA.start (w w2 : World) (b : Nat) (hb : b = w2.heap.size) (hlt : w.heap.size < w2.heap.size) (hres : w2.heap[w.heap.size]? = some (.cells #[.slice none 0 0, .slice none 0 0, .slice none 0 0, .slice none 0 0] 34 (0, 0))) (hbel : Below w.heap.size w w2) :
    NwA (b + 1) w (w2.alloc (.cells #[.slice none 0 0, .slice none 0 0, .slice none 0 0, .slice none 0 0] 34)) b (.slice none 0 0) (.slice none 0 0) (.slice none 0 0) (.slice none 0 0) [] [] [] [] := by
  subst hb
  have hn : ∀ g, (Value.slice none 0 0).ownBlock = some g → (Value.slice none 0 0).ownBlock ≠ some g := fun g h => by simp [Value.ownBlock] at h
  exact ⟨heap_alloc_new w2 _, World.ownsRow_nil _ _ _ 1, World.ownsRow_nil _ _ _ 1, World.ownsRow_nil _ _ _ 1, World.ownsRow_nil _ _ _ 3, hn, hn, hn, hn, hn, hn, Nat.lt_succ_self _, hlt, (Below.heap_alloc _ _ _ hlt).trans hres, hbel.trans ((below_one _ _).mono hbel.size)⟩
theorem src_one {w : World} {T E : TypeId} (hT : Tryz.prog.underlying T = some (.slice E)) (x : Value) (hx : x.oneCell' = true) : Src Tryz.prog 1 T (.slice (some ⟨w.heap.size, 0, none⟩) 1 1) 1 [x] (w.alloc (.cells #[x] E)) :=
  Src.ofSlice _ hT _ _ _ _ rfl (World.news_of_block (cs := #[x]) (t := E) (fr := (0, 0)) (heap_alloc_new w _)) (by intro u hu; simp at hu; subst hu; exact hx)
theorem src_pr3 {w : World} : Src Tryz.prog 3 32 (.slice (some ⟨w.heap.size, 0, none⟩) 1 1) 1 pr30.cells (w.alloc (.cells #[.int .u64 0, .int .i64 0, .slice none 0 0] 69)) :=
  Src.ofSlice _ Tryz.underlying32 _ _ _ _ rfl (World.news_of_block (cs := #[.int .u64 0, .int .i64 0, .slice none 0 0]) (t := 69) (fr := (0, 0)) (heap_alloc_new w _)) (by intro u hu; simp [Pr3.cells, pr30] at hu; rcases hu with rfl | rfl | rfl <;> rfl)

theorem i4_ok {l : List Int} (hu : ∀ k : Nat, Plc (l.getD k 0)) (j : Nat) : ∀ x ∈ i4 l j, u64 x := by
  intro x hx
  obtain ⟨k, _, rfl⟩ := List.mem_map.1 hx
  split
  · have := hu k; unfold Plc at this; unfold u64; omega
  · unfold u64; omega
theorem c3_block {w : World} {b : Nat} {a0 a1 a2 : Value} {t : TypeId} (h : w.heap[b]? = some (.cells #[a0, a1, a2] t (0, 0))) : w.cell? ⟨b, 0, none⟩ = some a0 ∧ w.cell? ⟨b, 1, none⟩ = some a1 ∧ w.cell? ⟨b, 2, none⟩ = some a2 ∧ b < w.heap.size :=
  ⟨by simp [World.cell?, h], by simp [World.cell?, h], by simp [World.cell?, h], lt_of_block h⟩
theorem own_cap {w : World} {B n g c k : Nat} {e : TypeId} {xs : List Value} (h : w.ownsRow B e k (.slice (some ⟨g, 0, none⟩) n c) n xs) : n ≤ c ∧ c ≤ 9223372036854775807 := by
  rcases h.2 with ⟨q, _⟩ | ⟨g', cap, cur, q, _, _, h1, h2, _⟩
  · cases q
  · cases q; unfold maxLen at h2; omega
theorem own_fz {w : World} {B n g c k : Nat} {e : TypeId} {xs : List Value} (h : w.ownsRow B e k (.slice (some ⟨g, 0, none⟩) n c) n xs) (j : Nat) : w.frozen? ⟨g, j, none⟩ = false := by
  rcases h.2 with ⟨q, _⟩ | ⟨g', cap, cur, q, _, hg, _⟩
  · cases q
  · cases q; exact fz_block hg j
theorem plc_u6 {x : Int} (h : Plc x) : 0 ≤ x ∧ x ≤ 18446744073709551615 := by unfold Plc at h; omega
theorem itn_step (l : List Int) (n : Int) (j : Nat) : bhF l (l.getD (itn l n j).toNat 0) 4 = itn l n (j + 1) := rfl
theorem pr_ok {y z : Int} {a : Option Addr} {n c : Nat} (hy : Plc y) (hz : 0 ≤ z ∧ z < 4) : (⟨y, z, a, n, c⟩ : Pr3).ok := by
  unfold Plc at hy
  exact ⟨by show u64 y; unfold u64; omega, by show i64 z; unfold i64; omega⟩

set_option maxRecDepth 100000 in
set_option maxHeartbeats 8000000 in
theorem rnew_four (a : Option Addr) (cap : Nat) (l : List Int) (w : World) (h : IdIn w a 4 l) :
    Calls Tryz.prog 44 #[.slice a 4 cap] w fun e w' =>
      ((∃ S : List Int, S.Pairwise (· < ·) ∧ (∀ x, x ∈ S ↔ x ∈ l) ∧ S.length < 4 ∧ e = .returned (.tuple #[rf0, .int .i64 8])) ∨
       (∃ (S : List Int) (v' : Value), S.Pairwise (· < ·) ∧ (∀ x, x ∈ S ↔ x ∈ l) ∧ S.length = 4 ∧ e = .returned (.tuple #[v', .int .i64 0]) ∧ RfV w' (newTo l (circleOf l S) 4) v')) ∧ Below w.heap.size w w' := by
  obtain ⟨iB0, iBa, iBb, iBc, iBd⟩ := info_ofP Tryz.infoBo
  obtain ⟨iU0, iUa, iUb, iUc, iUd⟩ := info_ofP Tryz.infoU8
  obtain ⟨iP0, iPa, iPb, iPc, iPd⟩ := info_ofP Tryz.infoP3
  obtain ⟨i0, hif, hz0, hz1, hz2⟩ := info_of Tryz.infoInt
  have HI : Hid (IdIn w a 4 l) := h
  have HLL : Hid (l.length = 4) := h.1
  have HU : Hid (∀ k : Nat, Plc (l.getD k 0)) := fun k => by
    by_cases q : k < 4
    · have := inrow_ok h (by omega) (l.getD k 0) (by rw [List.getD_eq_getElem?_getD, List.getElem?_eq_getElem (by have := h.1; omega)]; simp)
      unfold u64 at this; unfold Plc; omega
    · have e : l.getD k 0 = 0 := by simp [List.getD, List.getElem?_eq_none (by have := h.1; omega : l.length ≤ k)]
      rw [e]; unfold Plc; omega
  clear h
  go_enter Tryz.func44, Tryz.ntmps44
  obtain ⟨W1, hW1⟩ : ∃ W1, W1 = w.alloc (.cells #[.slice none 0 0, .slice none 0 0, .slice none 0 0, .slice none 0 0] 34) := ⟨_, rfl⟩
  have H1 : Hid (Below w.heap.size w W1 ∧ W1.heap[w.heap.size]? = some (.cells #[.slice none 0 0, .slice none 0 0, .slice none 0 0, .slice none 0 0] 34 (0, 0))) := by rw [hW1]; exact ⟨below_one _ _, heap_alloc_new _ _⟩
  go_upto_region 1 with fail
  rw [← hW1]
  clear hW1
  have hl1 := lt_of_block H1.out.2
  go_wp2_with fail
  refine (refsorted_any a 4 cap l W1 (ids_at (HI.out.below (Nat.le_refl _) H1.out.1)) (by omega)).mono ?_
  rintro e w2 ⟨v, rfl, S, hmd, hp, hmem⟩
  have hSl : S.length ≤ 4 := by have := rise_len S l hp (fun x hx => (hmem x).1 hx); rw [HLL.out] at this; exact this
  have HS : Hid (S.Pairwise (· < ·) ∧ (∀ x, x ∈ S ↔ x ∈ l)) := ⟨hp, hmem⟩
  obtain ⟨sa, sc, hv⟩ := hmd.shape
  subst hv
  have H2 : Hid (Below w.heap.size w w2 ∧ w2.heap[w.heap.size]? = some (.cells #[.slice none 0 0, .slice none 0 0, .slice none 0 0, .slice none 0 0] 34 (0, 0)) ∧ w.heap.size < w2.heap.size) := ⟨H1.out.1.trans (hmd.below.mono H1.out.1.size), (hmd.below.block _ hl1).trans H1.out.2, Nat.lt_of_lt_of_le hl1 hmd.below.size⟩
  clear hp hmem hmd H1 hl1
  by_cases q : S.length < 4
  · obtain ⟨s0, s1, s2, s3, sl⟩ := c4_block H2.out.2.1
    have sf := fz_block H2.out.2.1
    obtain ⟨nS, hnS⟩ : ∃ nS, nS = S.length := ⟨_, rfl⟩
    have HQ : Hid (S.length < 4) := q
    rw [← hnS] at q ⊢
    have hq4 : ((nS : Int) != 4) = true := by simp; omega
    clear hnS hSl
    go_wp2
    refine bodyPost_ret (v := .tuple #[rf0, .int .i64 8]) (by simp [results, Tryz.results44, go_sem, rf0, s0, s1, s2, s3]) rfl ⟨.inl ⟨S, HS.out.1, HS.out.2, HQ.out, rfl⟩, ?_⟩
    exact (((H2.out.1.setCell (Nat.le_refl _) _).setCell (Nat.le_refl _) _).setCell (Nat.le_refl _) _).setCell (Nat.le_refl _) _
  · have hS4 : S.length = 4 := by omega
    rw [hS4]
    have HS4 : Hid (S.length = 4) := hS4
    clear q hSl hS4
    obtain ⟨c0, c1, c2, c3, hcir⟩ := circ_of HLL.out HS.out.1 HS.out.2 HS4.out
    have HC : Hid (Circ l (circleOf l S) c0 c1 c2 c3) := hcir
    have HN : Hid (∀ n, 0 ≤ n → n < 4 → 0 ≤ nx l n ∧ nx l n < 4) := fun n h0 h4 => (new_kn hcir (hcir.rise HS.out.1 HS.out.2) HU.out n h0 h4).2.1
    clear hcir
    obtain ⟨X0, hX0⟩ : ∃ X0, X0 = w2.alloc (.cells #[.slice none 0 0, .slice none 0 0, .slice none 0 0, .slice none 0 0] 34) := ⟨_, rfl⟩
    obtain ⟨b, hb⟩ : ∃ b, b = w2.heap.size := ⟨_, rfl⟩
    have HX : Hid (NwA (b + 1) w X0 b (.slice none 0 0) (.slice none 0 0) (.slice none 0 0) (.slice none 0 0) [] [] [] []) := by rw [hX0]; exact NwA.start w w2 b hb H2.out.2.2 H2.out.2.1 H2.out.1
    go_upto_region 6 with fail
    rw [← hX0, ← hb]
    clear hX0 hb H2
    go_wp2
    go_loopg [5] 32 (fun kx s wr => ∃ (j : Nat) (v0 v1 v2 v3 : Value), s = .int .i64 j ∧ j ≤ 32 ∧ kx = 32 - j ∧ Hid (NwA (b + 1) w wr b v0 v1 v2 v3 (b4 j) (b4 j) (List.replicate j 0) (List.replicate j pr30)))
    case atStart => exact ⟨0, _, _, _, _, rfl, Nat.zero_le _, rfl, HX⟩
    case round =>
      obtain ⟨j, v0, v1, v2, v3, rfl, hj, rfl, H⟩ := hrel
      clear HX
      by_cases hlt : j < 32
      · have hjI : (0 : Int) ≤ (j : Int) ∧ (j : Int) < 32 := by omega
        have LN : Hid ((b4 j).length = j) := b4_len j
        obtain ⟨r0, r1, r2, r3, rl⟩ := c4_block H.out.box
        obtain ⟨d, hd⟩ : ∃ d, decide ((j : Int) < 4) = d := ⟨_, rfl⟩
        have HD : Hid (decide ((j : Int) < 4) = d) := hd
        have HS1 : Hid (Src Tryz.prog 1 28 (.slice (some ⟨wr.heap.size, 0, none⟩) 1 1) 1 [.bool d] (wr.alloc (.cells #[.bool d] 4))) := src_one Tryz.underlying28 _ rfl
        have HA : Hid (NwA (b + 1) w (wr.alloc (.cells #[.bool d] 4)) b v0 v1 v2 v3 (b4 j) (b4 j) (List.replicate j 0) (List.replicate j pr30)) := H.out.below (below_one _ _)
        clear H
        go_wp2_with (at_builtin; refine wpList_own_append _ rfl _ _ 28 28 rfl (b + 1) 4 iB0 _ 1 Tryz.underlying28 iBa iBb iBc iBd rfl _ _ _ rfl HA.out.u _ 1 _ rfl HS1.out ?c3 ?c4 ?c5 ?_)
        case c3 => rw [LN.out]; unfold maxLen; omega
        case c4 => rw [LN.out]; omega
        case c5 => simp; omega
        intro v' w3 ha
        obtain ⟨a1, k1, hv1⟩ := ha.shape
        rw [LN.out] at hv1
        have hbx : w3.heap[b]? = _ := (ha.grown.block b (by simp; omega) (fun e => by have := (HA.out.u.lt _ e.symm).1; omega)).trans HA.out.box
        have f0 := fz_block hbx 0
        obtain ⟨X1, hX1⟩ : ∃ X1, X1 = w3.setCell ⟨b, 0, none⟩ v' := ⟨_, rfl⟩
        have H1 : Hid (NwA (b + 1) w X1 b v' v1 v2 v3 (b4 (j + 1)) (b4 j) (List.replicate j 0) (List.replicate j pr30)) := by
          rw [hX1, ← b4_succ, HD.out]
          exact HA.out.app0 d (by simp) (by simp [bl]) ha
        subst hv1
        clear ha HA HS1 r0 r1 r2 r3 rl
        obtain ⟨r0, r1, r2, r3, rl⟩ := c4_block hbx
        clear hbx
        go_upto_region 10 with fail
        rw [← hX1]
        clear hX1 f0 r0 r1 r2 r3 rl
        -- the second row
        obtain ⟨r0, r1, r2, r3, rl⟩ := c4_block H1.out.box
        have HS1 : Hid (Src Tryz.prog 1 28 (.slice (some ⟨X1.heap.size, 0, none⟩) 1 1) 1 [.bool d] (X1.alloc (.cells #[.bool d] 4))) := src_one Tryz.underlying28 _ rfl
        have HA : Hid (NwA (b + 1) w (X1.alloc (.cells #[.bool d] 4)) b (.slice a1 (j + 1) k1) v1 v2 v3 (b4 (j + 1)) (b4 j) (List.replicate j 0) (List.replicate j pr30)) := H1.out.below (below_one _ _)
        clear H1
        go_wp2_with (at_builtin; refine wpList_own_append _ rfl _ _ 28 28 rfl (b + 1) 4 iB0 _ 1 Tryz.underlying28 iBa iBb iBc iBd rfl _ _ _ rfl HA.out.l _ 1 _ rfl HS1.out ?c3 ?c4 ?c5 ?_)
        case c3 => rw [LN.out]; unfold maxLen; omega
        case c4 => rw [LN.out]; omega
        case c5 => simp; omega
        intro v' w4 ha
        obtain ⟨a2, k2, hv2⟩ := ha.shape
        rw [LN.out] at hv2
        have hbx : w4.heap[b]? = _ := (ha.grown.block b (by simp; omega) (fun e => by have := (HA.out.l.lt _ e.symm).1; omega)).trans HA.out.box
        have f0 := fz_block hbx 1
        obtain ⟨X2, hX2⟩ : ∃ X2, X2 = w4.setCell ⟨b, 1, none⟩ v' := ⟨_, rfl⟩
        have H2 : Hid (NwA (b + 1) w X2 b (.slice a1 (j + 1) k1) v' v2 v3 (b4 (j + 1)) (b4 (j + 1)) (List.replicate j 0) (List.replicate j pr30)) := by
          rw [hX2]
          have := HA.out.app1 d (by simp) (by simp [bl]) ha
          rw [← HD.out, b4_succ] at this
          exact this
        subst hv2
        clear ha HA HS1 r0 r1 r2 r3 rl hd
        obtain ⟨r0, r1, r2, r3, rl⟩ := c4_block hbx
        clear hbx
        go_upto_region 11 with fail
        rw [← hX2]
        clear hX2 f0 r0 r1 r2 r3 rl
        -- the third
        have LI : Hid ((List.replicate j (0 : Int)).length = j) := List.length_replicate
        have LP : Hid ((List.replicate j pr30).length = j) := List.length_replicate
        obtain ⟨Ij, hIj⟩ : ∃ Ij, Ij = List.replicate j (0 : Int) := ⟨_, rfl⟩
        obtain ⟨Pj, hPj⟩ : ∃ Pj, Pj = List.replicate j pr30 := ⟨_, rfl⟩
        rw [← hIj] at LI H2
        rw [← hPj] at LP H2
        have HIJ : Hid (Ij ++ [0] = List.replicate (j + 1) (0 : Int) ∧ Pj ++ [pr30] = List.replicate (j + 1) pr30) := ⟨by rw [hIj, List.replicate_succ'], by rw [hPj, List.replicate_succ']⟩
        clear hIj hPj
        obtain ⟨r0, r1, r2, r3, rl⟩ := c4_block H2.out.box
        have HS1 : Hid (Src Tryz.prog 1 29 (.slice (some ⟨X2.heap.size, 0, none⟩) 1 1) 1 [.int .u64 0] (X2.alloc (.cells #[.int .u64 0] 25))) := src_one Tryz.underlying29 _ rfl
        have HA : Hid (NwA (b + 1) w (X2.alloc (.cells #[.int .u64 0] 25)) b (.slice a1 (j + 1) k1) (.slice a2 (j + 1) k2) v2 v3 (b4 (j + 1)) (b4 (j + 1)) Ij Pj) := H2.out.below (below_one _ _)
        clear H2
        go_wp2_with (at_builtin; refine wpList_own_append _ rfl _ _ 29 29 rfl (b + 1) 25 iU0 _ 8 Tryz.underlying29 iUa iUb iUc iUd rfl _ _ _ rfl HA.out.i _ 1 _ rfl HS1.out ?c3 ?c4 ?c5 ?_)
        case c3 => rw [LI.out]; unfold maxLen; omega
        case c4 => rw [LI.out]; omega
        case c5 => simp; omega
        intro v' w5 ha
        obtain ⟨a3, k3, hv3⟩ := ha.shape
        rw [LI.out] at hv3
        have hbx : w5.heap[b]? = _ := (ha.grown.block b (by simp; omega) (fun e => by have := (HA.out.i.lt _ e.symm).1; omega)).trans HA.out.box
        have f0 := fz_block hbx 2
        obtain ⟨X3, hX3⟩ : ∃ X3, X3 = w5.setCell ⟨b, 2, none⟩ v' := ⟨_, rfl⟩
        have H3 : Hid (NwA (b + 1) w X3 b (.slice a1 (j + 1) k1) (.slice a2 (j + 1) k2) v' v3 (b4 (j + 1)) (b4 (j + 1)) (Ij ++ [0]) Pj) := by
          rw [hX3]
          exact HA.out.app2 0 (by simp) (by simp [ul]) ha
        subst hv3
        clear ha HA HS1 r0 r1 r2 r3 rl
        obtain ⟨r0, r1, r2, r3, rl⟩ := c4_block hbx
        clear hbx
        go_upto_region 12 with fail
        rw [← hX3]
        clear hX3 f0 r0 r1 r2 r3 rl
        -- the fourth
        obtain ⟨r0, r1, r2, r3, rl⟩ := c4_block H3.out.box
        have HS1 : Hid (Src Tryz.prog 3 32 (.slice (some ⟨X3.heap.size, 0, none⟩) 1 1) 1 pr30.cells (X3.alloc (.cells #[.int .u64 0, .int .i64 0, .slice none 0 0] 69))) := src_pr3
        have HA : Hid (NwA (b + 1) w (X3.alloc (.cells #[.int .u64 0, .int .i64 0, .slice none 0 0] 69)) b (.slice a1 (j + 1) k1) (.slice a2 (j + 1) k2) (.slice a3 (j + 1) k3) v3 (b4 (j + 1)) (b4 (j + 1)) (Ij ++ [0]) Pj) := H3.out.below (below_one _ _)
        clear H3
        go_wp2_with (at_builtin; refine wpList_own_append3 _ rfl _ _ 32 32 rfl (b + 1) 69 iP0 _ 40 Tryz.underlying32 iPa iPb iPc iPd rfl _ _ _ rfl HA.out.p _ 1 _ rfl HS1.out ?c3 ?c4 ?c5 ?_)
        case c3 => rw [LP.out]; unfold maxLen; omega
        case c4 => rw [LP.out]; omega
        case c5 => simp; omega
        intro v' w6 ha
        obtain ⟨a4, k4, hv4⟩ := ha.shape
        rw [LP.out] at hv4
        have hbx : w6.heap[b]? = _ := (ha.grown.block b (by simp; omega) (fun e => by have := (HA.out.p.lt _ e.symm).1; omega)).trans HA.out.box
        have f0 := fz_block hbx 3
        obtain ⟨X4, hX4⟩ : ∃ X4, X4 = w6.setCell ⟨b, 3, none⟩ v' := ⟨_, rfl⟩
        have H4 : Hid (NwA (b + 1) w X4 b (.slice a1 (j + 1) k1) (.slice a2 (j + 1) k2) (.slice a3 (j + 1) k3) v' (b4 (j + 1)) (b4 (j + 1)) (List.replicate (j + 1) (0 : Int)) (List.replicate (j + 1) pr30)) := by
          rw [hX4, ← HIJ.out.1, ← HIJ.out.2]
          exact HA.out.app3 pr30 (by simp) (by simp [pl3]) ha
        subst hv4
        clear ha HA HS1 r0 r1 r2 r3 rl
        obtain ⟨r0, r1, r2, r3, rl⟩ := c4_block hbx
        clear hbx
        go_wp2
        rw [← hX4]
        go_roundg (32 - (j + 1))
        case measure => omega
        case rel => exact ⟨j + 1, _, _, _, _, by go_num, by omega, rfl, H4⟩
      · obtain rfl : j = 32 := by omega
        obtain ⟨w7, hw7⟩ : ∃ w7, w7 = wr := ⟨_, rfl⟩
        rw [← hw7] at H ⊢
        clear hw7
        have G := H.out
        rw [← i4_zero l] at G
        obtain ⟨Pz, hPz⟩ : ∃ Pz, Pz = List.replicate 32 pr30 := ⟨_, rfl⟩
        have HPz : Hid (Pz.length = 32 ∧ ∀ x ∈ Pz, x.ok) := by
          rw [hPz]; exact ⟨by simp, fun x hx => by rw [(List.mem_replicate.1 hx).2]; exact ⟨by show u64 0; unfold u64; omega, by show i64 0; unfold i64; omega⟩⟩
        rw [← hPz] at G
        obtain ⟨gu, cu, e0, _, _⟩ := own_sl G.u (by rw [b4_len]; omega)
        obtain ⟨gl, cl, e1, _, _⟩ := own_sl G.l (by rw [b4_len]; omega)
        obtain ⟨gi, ci, e2, _, _⟩ := own_sl G.i (by rw [i4_len]; omega)
        obtain ⟨gp, cp, e3, _, _⟩ := own_sl G.p (by rw [HPz.out.1]; omega)
        rw [b4_len] at e0 e1
        rw [i4_len] at e2
        rw [HPz.out.1] at e3
        subst e0 e1 e2 e3
        have HG : Hid (NwA (b + 1) w w7 b (.slice (some ⟨gu, 0, none⟩) 32 cu) (.slice (some ⟨gl, 0, none⟩) 32 cl) (.slice (some ⟨gi, 0, none⟩) 32 ci) (.slice (some ⟨gp, 0, none⟩) 32 cp) (b4 32) (b4 32) (i4 l 0) Pz) := G
        clear G H hPz hj hlt
        go_wp2
        go_loopg [59] 4 (fun kx s wr => ∃ j : Nat, s = .int .i64 j ∧ j ≤ 4 ∧ kx = 4 - j ∧ Hid (NwA (b + 1) w wr b (.slice (some ⟨gu, 0, none⟩) 32 cu) (.slice (some ⟨gl, 0, none⟩) 32 cl) (.slice (some ⟨gi, 0, none⟩) 32 ci) (.slice (some ⟨gp, 0, none⟩) 32 cp) (b4 32) (b4 32) (i4 l j) Pz))
        case atStart => exact ⟨0, rfl, Nat.zero_le _, rfl, HG⟩
        case round =>
          obtain ⟨j, rfl, hj, rfl, H⟩ := hrel
          clear HG
          by_cases hlt : j < 4
          · have hjI : (0 : Int) ≤ (j : Int) ∧ (j : Int) < 4 := by omega
            have hj32 : (j : Int) < 32 := by omega
            obtain ⟨ab, ao, haa, hab, hax, hac⟩ := (HI.out.below (Nat.le_refl _) H.out.bel).one (v := Value.int .u64) (fun _ => rfl) (i := j) hlt
            subst haa
            obtain ⟨r0, r1, r2, r3, rl⟩ := c4_block H.out.box
            have hif' := own_inU (B := b + 1) (g := gi) (c := ci) (L := i4 l j) (w := wr) (by have := H.out.i; rw [i4_len] at this; exact this) (i4_ok HU.out j)
            obtain ⟨ib, io, hia, hib, _, hic⟩ := hif'.one (v := Value.int .u64) (fun _ => rfl) (i := j) (by omega)
            simp only [Option.some.injEq, Addr.mk.injEq, and_true] at hia
            obtain ⟨rfl, rfl⟩ := hia
            simp only [Nat.zero_add] at hic
            have hfz : wr.frozen? ⟨gi, j, none⟩ = false := by
              rcases H.out.i.2 with ⟨q, _⟩ | ⟨g, cap', cur, q, _, hg, _⟩
              · cases q
              · cases q; exact fz_block hg j
            obtain ⟨X1, hX1⟩ : ∃ X1, X1 = wr.setCell ⟨gi, j, none⟩ (.int .u64 (l.getD j 0)) := ⟨_, rfl⟩
            have H1 : Hid (NwA (b + 1) w X1 b (.slice (some ⟨gu, 0, none⟩) 32 cu) (.slice (some ⟨gl, 0, none⟩) 32 cl) (.slice (some ⟨gi, 0, none⟩) 32 ci) (.slice (some ⟨gp, 0, none⟩) 32 cp) (b4 32) (b4 32) (i4 l (j + 1)) Pz) := by
              rw [hX1, ← i4_set l j (by omega)]
              have hh := H.out
              have e : (32 : Nat) = (i4 l j).length := (i4_len l j).symm
              have h2 := NwA.setI (gi := gi) (ci := ci) (by rw [← e]; exact hh) j (l.getD j 0)
              rw [← e] at h2
              exact h2
            clear H hif' hax
            generalize l.getD j 0 = y at hac hX1
            generalize (i4 l j).getD j 0 = z at hic
            go_wp2
            rw [← hX1]
            go_roundg (4 - (j + 1))
            case measure => omega
            case rel => exact ⟨j + 1, by go_num, by omega, rfl, H1⟩
          · obtain rfl : j = 4 := by omega
            obtain ⟨w8, hw8⟩ : ∃ w8, w8 = wr := ⟨_, rfl⟩
            rw [← hw8] at H ⊢
            clear hw8 hj hlt
            have HT : Hid (gu < w8.heap.size ∧ gl < w8.heap.size ∧ gi < w8.heap.size ∧ gp < w8.heap.size ∧ b < w8.heap.size) := ⟨(H.out.u.lt gu rfl).2, (H.out.l.lt gl rfl).2, (H.out.i.lt gi rfl).2, (H.out.p.lt gp rfl).2, lt_of_block H.out.box⟩
            go_wp2
            go_loopg [73] 4 (fun kx s wr => ∃ (k : Nat) (P : List Pr3), s = .int .i64 k ∧ k ≤ 4 ∧ kx = 4 - k ∧ Hid (NwA (b + 1) w wr b (.slice (some ⟨gu, 0, none⟩) 32 cu) (.slice (some ⟨gl, 0, none⟩) 32 cl) (.slice (some ⟨gi, 0, none⟩) 32 ci) (.slice (some ⟨gp, 0, none⟩) 32 cp) (b4 32) (b4 32) (i4 l 4) P ∧ LsD w8.heap.size wr l P k ∧ P.length = 32 ∧ (∀ x ∈ P, x.ok) ∧ w8.heap.size ≤ wr.heap.size))
            case atStart => exact ⟨0, Pz, rfl, Nat.zero_le _, rfl, (⟨H.out, fun n hn => absurd hn (Nat.not_lt_zero _), HPz.out.1, HPz.out.2, Nat.le_refl _⟩ : _ ∧ LsD w8.heap.size w8 l Pz 0 ∧ _ ∧ _ ∧ w8.heap.size ≤ w8.heap.size)⟩
            case round =>
              obtain ⟨k, P, rfl, hk, rfl, HQ⟩ := hrel
              clear H
              by_cases hlt : k < 4
              · have hkI : (0 : Int) ≤ (k : Int) ∧ (k : Int) < 4 := by omega
                obtain ⟨wo, hwo⟩ : ∃ wo, wo = wr := ⟨_, rfl⟩
                rw [← hwo] at HQ ⊢
                clear hwo
                obtain ⟨ab, ao, haa, hab, hax, hac⟩ := (HI.out.below (Nat.le_refl _) HQ.out.1.bel).one (v := Value.int .u64) (fun _ => rfl) (i := k) hlt
                subst haa
                obtain ⟨y, hy⟩ : ∃ y, y = l.getD k 0 := ⟨_, rfl⟩
                have HY : Hid (y = l.getD k 0) := hy
                rw [← hy] at hac
                obtain ⟨Y0, hY0⟩ : ∃ Y0, Y0 = wo.alloc (.cells #[.int .u64 y, .int .i64 (-1), .slice none 0 0] 69) := ⟨_, rfl⟩
                have H4 : Hid (In4 wo Y0 y (.slice none 0 0) l k 0) := by rw [hY0]; exact In4.start wo y l k
                clear hax hy
                go_upto_region 22 with fail
                rw [← hY0]
                clear hY0 hac hab
                go_wp2
                go_loopg [11, 12] 3 (fun kx x s wr => ∃ (j : Nat) (vS : Value), x = .int .u64 (l.getD (itn l k j).toNat 0) ∧ s = .int .i64 j ∧ j ≤ 3 ∧ kx = 3 - j ∧ Hid (In4 wo wr y vS l k j))
                case atStart => exact ⟨0, _, by rw [HY.out]; simp [itn], rfl, Nat.zero_le _, rfl, H4⟩
                case round =>
                  obtain ⟨j, vS, rfl, rfl, hj, rfl, H⟩ := hrel
                  clear H4
                  by_cases hlt3 : j < 3
                  · have hjI : (0 : Int) ≤ (j : Int) ∧ (j : Int) < 3 := by omega
                    obtain ⟨x, hx⟩ : ∃ x, x = l.getD (itn l k j).toNat 0 := ⟨_, rfl⟩
                    have hxp : 0 ≤ x ∧ x ≤ 18446744073709551615 := by rw [hx]; exact plc_u6 (HU.out _)
                    have hnx : bhF l x 4 = itn l k (j + 1) := by rw [hx]; rfl
                    rw [← hx]
                    have HXP : Hid (0 ≤ x ∧ x ≤ 18446744073709551615) := hxp
                    have HBW : Hid (Below w.heap.size w wr) := HQ.out.1.bel.trans (H.out.bel.mono HQ.out.1.bel.size)
                    have hrg := itn_rng HN.out (n := (k : Int)) hkI.1 hkI.2 (j + 1)
                    obtain ⟨m, hm⟩ : ∃ m : Nat, itn l k (j + 1) = m := ⟨(itn l k (j + 1)).toNat, by omega⟩
                    have HM : Hid ((m : Int) = itn l k (j + 1) ∧ bhF l x 4 = m) := ⟨hm.symm, by rw [hnx, hm]⟩
                    have hm4 : m < 4 := by omega
                    have hmI : (0 : Int) ≤ (m : Int) ∧ (m : Int) < 4 := by omega
                    clear hx hxp hnx hrg hm
                    go_wp2_with fail
                    refine (rbehind_r (some ⟨ab, ao, none⟩) cap l x wr (HI.out.below (Nat.le_refl _) HBW.out) HXP.out).mono ?_
                    rintro e w3 ⟨rfl, hb3⟩
                    rw [HM.out.2]
                    have H3 : Hid (In4 wo w3 y vS l k j ∧ Below w.heap.size w w3) := ⟨H.out.below hb3, HBW.out.trans (hb3.mono HBW.out.size)⟩
                    clear hb3 H HBW
                    have HA : Hid (In4 wo (w3.alloc (.cells #[.int .i64 m] 3)) y vS l k j) := H3.out.1.below (below_one _ _)
                    obtain ⟨r0, r1, r2, rl⟩ := c3_block H3.out.1.box
                    have HS1 : Hid (Src Tryz.prog 1 24 (.slice (some ⟨w3.heap.size, 0, none⟩) 1 1) 1 [.int .i64 m] (w3.alloc (.cells #[.int .i64 m] 3))) := src_one Tryz.underlying24 _ rfl
                    go_wp2_with (at_builtin; refine wpList_own_append _ rfl _ _ 24 24 rfl (wo.heap.size + 1) 3 i0 _ 8 Tryz.underlying24 hif hz0 hz1 hz2 rfl _ _ _ rfl HA.out.row _ 1 _ rfl HS1.out ?c3 ?c4 ?c5 ?_)
                    case c3 => unfold maxLen; omega
                    case c4 => omega
                    case c5 => simp; omega
                    intro v' w4 ha
                    obtain ⟨a1, k1, hv1⟩ := ha.shape
                    have hbx : w4.heap[wo.heap.size]? = _ := (ha.grown.block wo.heap.size (by simp; omega) (fun e => by have := (HA.out.row.lt _ e.symm).1; omega)).trans HA.out.box
                    have f0 := fz_block hbx 2
                    have HBW : Hid (Below w.heap.size w (w4.setCell ⟨wo.heap.size, 2, none⟩ v')) := HQ.out.1.bel.trans ((HA.out.app HM.out.1 ha).bel.mono HQ.out.1.bel.size)
                    obtain ⟨X1, hX1⟩ : ∃ X1, X1 = w4.setCell ⟨wo.heap.size, 2, none⟩ v' := ⟨_, rfl⟩
                    have H1 : Hid (In4 wo X1 y v' l k (j + 1)) := by rw [hX1]; exact HA.out.app HM.out.1 ha
                    rw [← hX1] at HBW
                    subst hv1
                    clear ha HA HS1 r0 r1 r2 rl H3
                    obtain ⟨r0, r1, r2, rl⟩ := c3_block hbx
                    clear hbx
                    go_upto_region 28 with fail
                    rw [← hX1]
                    clear hX1 f0 r0 r1 r2 rl
                    obtain ⟨b1, o1, hh1, hb1, _, hc1⟩ := (HI.out.below (Nat.le_refl _) HBW.out).one (v := Value.int .u64) (fun _ => rfl) (i := m) hm4
                    simp only [Option.some.injEq, Addr.mk.injEq, and_true] at hh1
                    obtain ⟨rfl, rfl⟩ := hh1
                    have HE : Hid (l.getD m 0 = l.getD (itn l k (j + 1)).toNat 0) := by show l.getD m 0 = _; rw [← HM.out.1]; simp
                    generalize l.getD m 0 = x2 at hc1 HE
                    clear HBW
                    go_wp2
                    go_roundg (3 - (j + 1))
                    case measure => omega
                    case rel => exact ⟨j + 1, _, by rw [HE.out], by go_num, by omega, rfl, H1⟩
                  · obtain rfl : j = 3 := by omega
                    obtain ⟨w9, hw9⟩ : ∃ w9, w9 = wr := ⟨_, rfl⟩
                    rw [← hw9] at H ⊢
                    clear hw9
                    obtain ⟨g5, c5, hv5, hg5, hg5'⟩ := own_sl H.out.row (by omega)
                    subst hv5
                    have hin : InIn w9 (some ⟨g5, 0, none⟩) 3 (lst l k 3) := in_of_own H.out.row (lst_ok HN.out hkI.1 hkI.2 3) (by omega)
                    obtain ⟨b5, o5, hh5, hb5, _, hc5⟩ := hin.one (v := Value.int .i64) (fun _ => rfl) (i := 2) (by omega)
                    simp only [Option.some.injEq, Addr.mk.injEq, and_true] at hh5
                    obtain ⟨rfl, rfl⟩ := hh5
                    obtain ⟨z, hz⟩ : ∃ z, z = itn l k 3 := ⟨_, rfl⟩
                    have hc5' : w9.cell? ⟨g5, 2, none⟩ = some (.int .i64 z) := by rw [hz]; simpa [lst] using hc5
                    clear hc5
                    have hcap := own_cap H.out.row
                    obtain ⟨r0, r1, r2, rl⟩ := c3_block H.out.box
                    have f0 := fz_block H.out.box 1
                    obtain ⟨X1, hX1⟩ : ∃ X1, X1 = w9.setCell ⟨wo.heap.size, 1, none⟩ (.int .i64 z) := ⟨_, rfl⟩
                    have H1 : Hid (X1.heap[wo.heap.size]? = some (.cells #[.int .u64 y, .int .i64 z, .slice (some ⟨g5, 0, none⟩) 3 c5] 69 (0, 0)) ∧ Below wo.heap.size wo X1 ∧ InIn X1 (some ⟨g5, 0, none⟩) 3 (lst l k 3) ∧ z = itn l k 3 ∧ (3 ≤ c5 ∧ c5 ≤ 9223372036854775807) ∧ wo.heap.size < g5) := by
                      rw [hX1]
                      exact ⟨by simpa using bx_set (j := 1) H.out.box (.int .i64 z), H.out.bel.setCell (Nat.le_refl _) _, hin.setCell (fun x hx => by cases hx; show g5 ≠ wo.heap.size; omega) _, hz, hcap, by omega⟩
                    clear hin hz H hg5 hcap
                    go_upto_region 30 with fail
                    rw [← hX1]
                    clear hX1 r0 r1 r2 rl f0 hc5' hb5 hg5'
                    obtain ⟨r0, r1, r2, rl⟩ := c3_block H1.out.1
                    have HN1 := HQ.out.1.below H1.out.2.1
                    obtain ⟨t0, t1, t2, t3, tl⟩ := c4_block HN1.box
                    have hP32 := HQ.out.2.2.1
                    have hpr : X1.ownsRow (b + 1) 69 3 (.slice (some ⟨gp, 0, none⟩) 32 cp) 32 (pl3 P) := by have := HN1.p; rw [hP32] at this; exact this
                    obtain ⟨pb, po, hpp, hpl, hpc⟩ := (own_inP hpr HQ.out.2.2.2.1).2.2.resolve_left (by omega)
                    simp only [Option.some.injEq, Addr.mk.injEq, and_true] at hpp
                    obtain ⟨rfl, rfl⟩ := hpp
                    have p0 := (hpc k (by omega)).2 0 (by omega)
                    have p1 := (hpc k (by omega)).2 1 (by omega)
                    have p2 := (hpc k (by omega)).2 2 (by omega)
                    simp only [Nat.zero_add, Nat.add_zero] at p0 p1 p2
                    generalize P.getD k pr30 = pk at p0 p1 p2
                    replace p0 : X1.cell? ⟨gp, k * 3, none⟩ = some (.int .u64 pk.id) := p0
                    replace p1 : X1.cell? ⟨gp, k * 3 + 1, none⟩ = some (.int .i64 pk.pred) := p1
                    replace p2 : X1.cell? ⟨gp, k * 3 + 2, none⟩ = some (.slice pk.a pk.len pk.cap) := p2
                    have f0 := own_fz hpr (k * 3)
                    have f1 := own_fz hpr (k * 3 + 1)
                    have f2 := own_fz hpr (k * 3 + 2)
                    obtain ⟨X2, hX2⟩ : ∃ X2, X2 = ((X1.setCell ⟨gp, k * 3, none⟩ (.int .u64 y)).setCell ⟨gp, k * 3 + 1, none⟩ (.int .i64 z)).setCell ⟨gp, k * 3 + 2, none⟩ (.slice (some ⟨g5, 0, none⟩) 3 c5) := ⟨_, rfl⟩
                    have H2 : Hid (NwA (b + 1) w X2 b (.slice (some ⟨gu, 0, none⟩) 32 cu) (.slice (some ⟨gl, 0, none⟩) 32 cl) (.slice (some ⟨gi, 0, none⟩) 32 ci) (.slice (some ⟨gp, 0, none⟩) 32 cp) (b4 32) (b4 32) (i4 l 4) (P.set k ⟨y, z, some ⟨g5, 0, none⟩, 3, c5⟩) ∧ LsD w8.heap.size X2 l (P.set k ⟨y, z, some ⟨g5, 0, none⟩, 3, c5⟩) (k + 1) ∧ (P.set k ⟨y, z, some ⟨g5, 0, none⟩, 3, c5⟩).length = 32 ∧ (∀ x ∈ P.set k ⟨y, z, some ⟨g5, 0, none⟩, 3, c5⟩, x.ok) ∧ w8.heap.size ≤ X2.heap.size) := by
                      have hT := HT.out.2.2.2.1
                      have hsz : w8.heap.size ≤ X1.heap.size := Nat.le_trans HQ.out.2.2.2.2 H1.out.2.1.size
                      have hgg := H1.out.2.2.2.2.2
                      have hwz := HQ.out.2.2.2.2
                      refine ⟨?_, ?_, by rw [List.length_set]; exact hP32, fun x hx => ?_, by rw [hX2]; simp [World.setCell]; exact hsz⟩
                      · have q := NwA.set3 (gp := gp) (cp := cp) (by rw [hP32]; exact HN1) (by rw [hP32]; omega : k < P.length) ⟨y, z, some ⟨g5, 0, none⟩, 3, c5⟩
                        rw [hP32] at q
                        rw [hX2]; exact q
                      · have d1 : LsD w8.heap.size X1 l P k := HQ.out.2.1.below H1.out.2.1
                        have d2 := d1.step (by rw [hP32]; omega) H1.out.2.2.1 (by omega : w8.heap.size ≤ g5) H1.out.2.2.2.2.1
                        rw [← HY.out, ← H1.out.2.2.2.1] at d2
                        rw [hX2]
                        exact ((d2.set hT _ _).set hT _ _).set hT _ _
                      · rcases List.mem_or_eq_of_mem_set hx with q | q
                        · exact HQ.out.2.2.2.1 x q
                        · rw [q]
                          refine pr_ok (by rw [HY.out]; exact HU.out k) (by rw [H1.out.2.2.2.1]; exact itn_rng HN.out hkI.1 hkI.2 3)
                    have hk32 : (k : Int) < 32 := by omega
                    clear HQ H1 HN1 hpr hpc hP32
                    go_wp2
                    rw [← hX2]
                    go_roundg (4 - (k + 1))
                    case measure => omega
                    case rel => exact ⟨k + 1, _, by go_num, by omega, rfl, H2⟩
              · obtain rfl : k = 4 := by omega
                obtain ⟨w10, hw10⟩ : ∃ w10, w10 = wr := ⟨_, rfl⟩
                rw [← hw10] at HQ ⊢
                clear hw10
                have hv := NwA.toV HC.out HS.out.1 HS.out.2 HU.out HQ.out.2.2.1 HQ.out.2.2.2.1 HQ.out.1 HQ.out.2.1
                obtain ⟨t0, t1, t2, t3, tl⟩ := c4_block HQ.out.1.box
                obtain ⟨s0, s1, s2, s3, sl⟩ := c4_block HQ.out.1.res
                have sf := fz_block HQ.out.1.res
                have HE : Hid _ := hv.off (w' := set4 w10 w.heap.size (.slice (some ⟨gu, 0, none⟩) 32 cu) (.slice (some ⟨gl, 0, none⟩) 32 cl) (.slice (some ⟨gi, 0, none⟩) 32 ci) (.slice (some ⟨gp, 0, none⟩) 32 cp)) (by rw [set4_size]; exact Nat.le_refl _) (off_set4 HQ.out.1.res ⟨_, _, _, rfl⟩ ⟨_, _, _, rfl⟩ ⟨_, _, _, rfl⟩ ⟨_, _, _, rfl⟩ _ _ _ _)
                have HB : Hid (Below w.heap.size w (set4 w10 w.heap.size (.slice (some ⟨gu, 0, none⟩) 32 cu) (.slice (some ⟨gl, 0, none⟩) 32 cl) (.slice (some ⟨gi, 0, none⟩) 32 ci) (.slice (some ⟨gp, 0, none⟩) 32 cp))) := set4_below HQ.out.1.bel (p := w.heap.size) (by omega) _ _ _ _
                clear hv HQ
                go_wp2
                refine bodyPost_ret (v := .tuple #[.agg #[.slice (some ⟨gu, 0, none⟩) 32 cu, .slice (some ⟨gl, 0, none⟩) 32 cl, .slice (some ⟨gi, 0, none⟩) 32 ci, .slice (some ⟨gp, 0, none⟩) 32 cp], .int .i64 0]) (by simp [results, Tryz.results44, go_sem, s0, s1, s2, s3]) rfl ⟨.inr ⟨S, _, HS.out.1, HS.out.2, HS4.out, rfl, HE.out⟩, HB.out⟩
end Go.Proofs.YtgiiadjocfnhlabGreatDoor
