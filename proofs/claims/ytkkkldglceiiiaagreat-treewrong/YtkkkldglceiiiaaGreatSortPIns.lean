/- slices' partial insertion sort at places: what it makes of a row. -/
import Derived.Test.YtkkkldglceiiiaaGreatSortPart
namespace Go.Proofs.YtkkkldglceiiiaaGreat
open Go.ChangeShapes Go.WideShapes Go.ChangeAt Go.RowKit
open Go.Sort (swp ltInt scanSorted shiftDown shiftUp partialIns)
set_option linter.unusedVariables false

theorem sorted_on (d : Array Int) (b i : Nat) (h : i < b) (hl : ltInt d[i]! d[i - 1]! = false) : scanSorted ltInt d b i = scanSorted ltInt d b (i + 1) := by
  rw [scanSorted, if_pos (by rw [hl]; simpa using h)]
theorem sorted_off (d : Array Int) (b i : Nat) (h : ¬ i < b ∨ ltInt d[i]! d[i - 1]! = true) : scanSorted ltInt d b i = i := by
  rw [scanSorted, if_neg]
  rcases h with h | h
  · simp; intro q; omega
  · rw [h]; simp
theorem shd_on (j : Nat) (d : Array Int) (h : 0 < j) (hl : ltInt d[j]! d[j - 1]! = true) : shiftDown ltInt j d = shiftDown ltInt (j - 1) (swp d j (j - 1)) := by
  cases j with
  | zero => omega
  | succ k => rw [Nat.add_sub_cancel] at hl ⊢; rw [shiftDown, hl]; rfl
theorem shd_off (j : Nat) (d : Array Int) (h : ¬ 0 < j ∨ ltInt d[j]! d[j - 1]! = false) : shiftDown ltInt j d = d := by
  cases j with
  | zero => rfl
  | succ k =>
    rw [Nat.add_sub_cancel] at h
    rcases h with h | h
    · omega
    · rw [shiftDown, h]; rfl
theorem shu_on (b j : Nat) (d : Array Int) (h : j < b) (hl : ltInt d[j]! d[j - 1]! = true) : shiftUp ltInt b j d = shiftUp ltInt b (j + 1) (swp d j (j - 1)) := by
  rw [shiftUp.eq_def ltInt b j d, if_pos h, hl]; rfl
theorem shu_off (b j : Nat) (d : Array Int) (h : ¬ j < b ∨ ltInt d[j]! d[j - 1]! = false) : shiftUp ltInt b j d = d := by
  rw [shiftUp]
  by_cases hj : j < b
  · rcases h with h | h
    · omega
    · rw [if_pos hj, h]; rfl
  · rw [if_neg hj]

theorem pins_end (a b s i i2 : Nat) (d : Array Int) (h : scanSorted ltInt d b i = i2) (hb : i2 = b) : partialIns ltInt a b (s + 1) i d = (d, true) := by
  rw [partialIns]; dsimp only; rw [h, if_pos hb]
theorem pins_short (a b s i i2 : Nat) (d : Array Int) (h : scanSorted ltInt d b i = i2) (hb : i2 ≠ b) (h50 : b - a < 50) : partialIns ltInt a b (s + 1) i d = (d, false) := by
  rw [partialIns]; dsimp only; rw [h, if_neg hb, if_pos h50]
theorem pins_go (a b s i i2 : Nat) (d d1 d2 d3 : Array Int) (h : scanSorted ltInt d b i = i2) (hb : i2 ≠ b) (h50 : ¬ b - a < 50) (h1 : d1 = swp d i2 (i2 - 1)) (h2 : d2 = if i2 - a ≥ 2 then shiftDown ltInt (i2 - 1) d1 else d1)
    (h3 : d3 = if b - i2 ≥ 2 then shiftUp ltInt b (i2 + 1) d2 else d2) : partialIns ltInt a b (s + 1) i d = partialIns ltInt a b s i2 d3 := by
  rw [partialIns]; dsimp only; rw [h, if_neg hb, if_neg h50, h3, h2, h1]

set_option maxHeartbeats 1000000 in
set_option maxRecDepth 100000 in
theorem pins_any (blk off cap a b : Nat) (d : Array Int) (w : World) (hR : Row w blk off d) (hab : a < b) (hb : b ≤ d.size) (hsz : d.size < 4611686018427387904) :
    Calls Tryz.prog 63 #[.slice (some ⟨blk, off, none⟩) d.size cap, .int .i64 a, .int .i64 b] w fun e w' =>
      e = .returned (.bool (Sort.partialInsertionSort ltInt d a b).2) ∧ RK w w' blk ∧ Row w' blk off (Sort.partialInsertionSort ltInt d a b).1 := by
  have H0 : Hid (Row w blk off d) := hR
  clear hR
  go_enter Tryz.func63, Tryz.ntmps63
  go_wp2_with (fail)
  go_loopg [7, 8] 5 (fun k vi vj wr => ∃ (i j : Nat) (e : Array Int), vi = .int .i64 i ∧ vj = .int .i64 j ∧ a < i ∧ i ≤ b ∧ j ≤ 5 ∧ 5 - j = k ∧ e.size = d.size ∧ RK w wr blk ∧ Row wr blk off e ∧
      partialIns ltInt a b (5 - j) i e = Sort.partialInsertionSort ltInt d a b)
  case atStart => exact ⟨a + 1, 0, d, by go_num, rfl, by omega, by omega, by omega, rfl, rfl, RK.refl _ _, H0.out, rfl⟩
  case round =>
    clear H0
    obtain ⟨i, j, e, rfl, rfl, hai, hib, hj5, hgk, hse, hK, hRow, hO⟩ := hrel
    have H : Hid (RK w wr blk ∧ Row wr blk off e ∧ partialIns ltInt a b (5 - j) i e = Sort.partialInsertionSort ltInt d a b) := ⟨hK, hRow, hO⟩
    clear hK hRow hO
    by_cases hj : j < 5
    · have HN : Hid (5 - j = (4 - j) + 1) := by show _ = _; omega
      go_upto_block 2 with fail
      go_cut [7] from 13 to 132 (fun v7 wc => ∃ i2 : Nat, v7 = .int .i64 i2 ∧ i ≤ i2 ∧ i2 ≤ b ∧ RK w wc blk ∧ Row wc blk off e ∧ scanSorted ltInt e b i = i2)
      case first =>
        go_wp2_with fail
        go_loopg [7] (b - i) (fun k vi wr => ∃ i2 : Nat, vi = .int .i64 i2 ∧ i ≤ i2 ∧ i2 ≤ b ∧ b - i2 ≤ k ∧ RK w wr blk ∧ Row wr blk off e ∧ scanSorted ltInt e b i = scanSorted ltInt e b i2)
        case atStart => exact ⟨i, rfl, Nat.le_refl _, hib, Nat.le_refl _, H.out.1, H.out.2.1, rfl⟩
        case round =>
          obtain ⟨i2, rfl, hii, hi2, hk2, hK, hRow, hS⟩ := hrel
          obtain ⟨G, hG, hcell, hfro⟩ := hRow.fam d.size hse
          have HS : Hid ((∀ t, G t = e[t]!) ∧ RK w wr blk ∧ Row wr blk off e ∧ scanSorted ltInt e b i = scanSorted ltInt e b i2) := ⟨hG, hK, hRow, hS⟩
          clear hG hK hRow hS
          go_wp2
          by_cases hc : i2 < b
          · go_quiet (first | (go_at_call 64; refine Calls.quiet_of_same (less_any _ _ _)))
            go_wp2
            · have hl : ltInt (G i2) (G (i2 - 1)) = false := not_true_of (by assumption)
              go_roundg (b - i2 - 1)
              case measure => omega
              case rel =>
                have st := still_step HS.out.2.1 HS.out.2.2.1 nq
                exact ⟨i2 + 1, by go_num, by omega, by omega, by omega, st.1, st.2, by
                  rw [HS.out.2.2.2, sorted_on _ _ _ hc (by rw [← HS.out.1, ← HS.out.1]; exact hl)]⟩
            · have hl : ltInt (G i2) (G (i2 - 1)) = true := not_false_of (by assumption)
              go_meet
              case rel =>
                have st := still_step HS.out.2.1 HS.out.2.2.1 nq
                exact ⟨i2, rfl, hii, hi2, st.1, st.2, by rw [HS.out.2.2.2, sorted_off _ _ _ (Or.inr (by rw [← HS.out.1, ← HS.out.1]; exact hl))]⟩
          · go_quiet (first | (go_at_call 64; refine Calls.quiet_of_same (less_any _ _ _)))
            go_wp2
            go_meet
            case rel =>
              have st := still_step HS.out.2.1 HS.out.2.2.1 nq
              exact ⟨i2, rfl, hii, hi2, st.1, st.2, by rw [HS.out.2.2.2, sorted_off _ _ _ (Or.inl hc)]⟩
      case rest =>
        obtain ⟨i2, rfl, hii, hi2, hK, hRow, hS⟩ := hcut
        obtain ⟨G, hG, hcell, hfro⟩ := hRow.fam d.size hse
        have HU : Hid ((∀ t, G t = e[t]!) ∧ RK w wc blk ∧ Row wc blk off e ∧ scanSorted ltInt e b i = i2) := ⟨hG, hK, hRow, hS⟩
        clear hG hK hRow hS
        by_cases hib2 : i2 = b
        · have HB : Hid (i2 = b) := hib2
          have q0 : ((i2 : Int) == b) = true := by rw [hib2]; exact beq_self_eq_true _
          clear hib2
          go_wp2
          go_ret
          have q : partialIns ltInt a b (5 - j) i e = (e, true) := by rw [HN.out, pins_end a b (4 - j) i i2 e HU.out.2.2.2 HB.out]
          rw [← H.out.2.2, q]
          exact ⟨rfl, HU.out.2.1, HU.out.2.2.1⟩
        · have q0 : ((i2 : Int) == b) = false := by simp; omega
          by_cases h50 : (b : Int) - a < 50
          · go_wp2
            go_ret
            have q : partialIns ltInt a b (5 - j) i e = (e, false) := by rw [HN.out, pins_short a b (4 - j) i i2 e HU.out.2.2.2 hib2 (by omega)]
            rw [← H.out.2.2, q]
            exact ⟨rfl, HU.out.2.1, HU.out.2.2.1⟩
          · go_upto_region 11 with fail
            go_region
            all_goals go_upto_if 61 with fail
            obtain ⟨e1, he1⟩ : ∃ e1, e1 = swp e i2 (i2 - 1) := ⟨_, rfl⟩
            have hse1 : e1.size = d.size := by rw [he1, swp_size]; exact hse
            have st := swap_step HU.out.2.1 HU.out.2.2.1 1 i2 (i2 - 1) (by omega) (by omega) (G i2) (G (i2 - 1)) (HU.out.1 _) (HU.out.1 _)
            rw [← he1] at st
            have H1 : Hid _ := st
            have HE1 : Hid (e1 = swp e i2 (i2 - 1)) := he1
            clear st he1 hcell hfro
            go_cut [] from 13 to 132 (fun wc => ∃ e2 : Array Int, e2.size = d.size ∧ RK w wc blk ∧ Row wc blk off e2 ∧ e2 = if i2 - a ≥ 2 then shiftDown ltInt (i2 - 1) e1 else e1)
            case first =>
              go_wp2_with fail
              · have hge : i2 - a ≥ 2 := by omega
                go_loopg [9] i2 (fun k vj wr => ∃ (jj : Nat) (c : Array Int), vj = .int .i64 jj ∧ jj ≤ i2 - 1 ∧ jj ≤ k ∧ c.size = d.size ∧ RK w wr blk ∧ Row wr blk off c ∧ shiftDown ltInt jj c = shiftDown ltInt (i2 - 1) e1)
                case atStart => exact ⟨i2 - 1, e1, by congr 1; omega, Nat.le_refl _, by omega, hse1, H1.out.1, H1.out.2, rfl⟩
                case round =>
                  obtain ⟨jj, c, rfl, hjj, hk2, hsc, hK, hRow, hS⟩ := hrel
                  obtain ⟨G, hG, hcell, hfro⟩ := hRow.fam d.size hsc
                  have HS : Hid ((∀ t, G t = c[t]!) ∧ RK w wr blk ∧ Row wr blk off c ∧ shiftDown ltInt jj c = shiftDown ltInt (i2 - 1) e1) := ⟨hG, hK, hRow, hS⟩
                  clear hG hK hRow hS
                  by_cases hc : 0 < jj
                  · go_upto_region 16 with fail
                    go_quiet (first | (go_at_call 64; refine Calls.quiet_of_same (less_any _ _ _)))
                    go_wp2
                    · have hl : ltInt (G jj) (G (jj - 1)) = false := not_true_of (by assumption)
                      go_meet
                      case rel =>
                        have st := still_step HS.out.2.1 HS.out.2.2.1 nq
                        exact ⟨c, hsc, st.1, st.2, by rw [if_pos hge, ← HS.out.2.2.2, shd_off _ _ (Or.inr (by rw [← HS.out.1, ← HS.out.1]; exact hl))]⟩
                    · have hl : ltInt (G jj) (G (jj - 1)) = true := not_false_of (by assumption)
                      go_region
                      all_goals go_wp2
                      go_roundg (jj - 1)
                      case measure => omega
                      case rel =>
                        have st := swap_step HS.out.2.1 HS.out.2.2.1 (nq + 1) jj (jj - 1) (by omega) (by omega) (G jj) (G (jj - 1)) (HS.out.1 _) (HS.out.1 _)
                        exact ⟨jj - 1, swp c jj (jj - 1), by congr 1; omega, by omega, by omega, by rw [swp_size]; exact hsc, st.1, st.2, by
                          rw [← HS.out.2.2.2, shd_on _ _ hc (by rw [← HS.out.1, ← HS.out.1]; exact hl)]⟩
                  · go_wp2_with fail
                    go_meet
                    case rel => exact ⟨c, hsc, HS.out.2.1, HS.out.2.2.1, by rw [if_pos hge, ← HS.out.2.2.2, shd_off _ _ (Or.inl hc)]⟩
              · have hlt : ¬ i2 - a ≥ 2 := by omega
                go_meet
                case rel => exact ⟨e1, hse1, H1.out.1, H1.out.2, by rw [if_neg hlt]⟩
            case rest =>
              obtain ⟨e2, hse2, hK, hRow, hE2⟩ := hcut
              have H2 : Hid (RK w wc blk ∧ Row wc blk off e2 ∧ e2 = if i2 - a ≥ 2 then shiftDown ltInt (i2 - 1) e1 else e1) := ⟨hK, hRow, hE2⟩
              clear hK hRow hE2
              go_wp2_with fail
              · have hge : b - i2 ≥ 2 := by omega
                go_loopg [10] b (fun k vj wr => ∃ (jj : Nat) (c : Array Int), vj = .int .i64 jj ∧ i2 < jj ∧ jj ≤ b ∧ b - jj ≤ k ∧ c.size = d.size ∧ RK w wr blk ∧ Row wr blk off c ∧ shiftUp ltInt b jj c = shiftUp ltInt b (i2 + 1) e2)
                case atStart => exact ⟨i2 + 1, e2, by go_num, by omega, by omega, by omega, hse2, H2.out.1, H2.out.2.1, rfl⟩
                case round =>
                  obtain ⟨jj, c, rfl, hijj, hjj, hk2, hsc, hK, hRow, hS⟩ := hrel
                  obtain ⟨G, hG, hcell, hfro⟩ := hRow.fam d.size hsc
                  have HS : Hid ((∀ t, G t = c[t]!) ∧ RK w wr blk ∧ Row wr blk off c ∧ shiftUp ltInt b jj c = shiftUp ltInt b (i2 + 1) e2) := ⟨hG, hK, hRow, hS⟩
                  clear hG hK hRow hS
                  by_cases hc : jj < b
                  · go_upto_region 22 with fail
                    go_quiet (first | (go_at_call 64; refine Calls.quiet_of_same (less_any _ _ _)))
                    go_wp2
                    · have hl : ltInt (G jj) (G (jj - 1)) = false := not_true_of (by assumption)
                      have st := still_step HS.out.2.1 HS.out.2.2.1 nq
                      go_roundg (4 - j)
                      case measure => omega
                      case rel =>
                        exact ⟨i2, j + 1, c, rfl, by go_num, by omega, by omega, by omega, by omega, hsc, st.1, st.2, by
                          have q := pins_go a b (4 - j) i i2 e e1 e2 c HU.out.2.2.2 hib2 (by omega) HE1.out H2.out.2.2 (by rw [if_pos hge, ← HS.out.2.2.2, shu_off _ _ _ (Or.inr (by rw [← HS.out.1, ← HS.out.1]; exact hl))])
                          rw [← H.out.2.2, HN.out, q, show 5 - (j + 1) = 4 - j by omega]⟩
                    · have hl : ltInt (G jj) (G (jj - 1)) = true := not_false_of (by assumption)
                      go_region
                      all_goals go_wp2
                      go_roundg (b - jj - 1)
                      case measure => omega
                      case rel =>
                        have st := swap_step HS.out.2.1 HS.out.2.2.1 (nq + 1) jj (jj - 1) (by omega) (by omega) (G jj) (G (jj - 1)) (HS.out.1 _) (HS.out.1 _)
                        exact ⟨jj + 1, swp c jj (jj - 1), by go_num, by omega, by omega, by omega, by rw [swp_size]; exact hsc, st.1, st.2, by
                          rw [← HS.out.2.2.2, shu_on _ _ _ hc (by rw [← HS.out.1, ← HS.out.1]; exact hl)]⟩
                  · go_wp2_with fail
                    go_roundg (4 - j)
                    case measure => omega
                    case rel =>
                      exact ⟨i2, j + 1, c, rfl, by go_num, by omega, by omega, by omega, by omega, hsc, HS.out.2.1, HS.out.2.2.1, by
                        have q := pins_go a b (4 - j) i i2 e e1 e2 c HU.out.2.2.2 hib2 (by omega) HE1.out H2.out.2.2 (by rw [if_pos hge, ← HS.out.2.2.2, shu_off _ _ _ (Or.inl hc)])
                        rw [← H.out.2.2, HN.out, q, show 5 - (j + 1) = 4 - j by omega]⟩
              · have hlt : ¬ b - i2 ≥ 2 := by omega
                go_roundg (4 - j)
                case measure => omega
                case rel =>
                  exact ⟨i2, j + 1, e2, rfl, by go_num, by omega, by omega, by omega, by omega, hse2, H2.out.1, H2.out.2.1, by
                    have q := pins_go a b (4 - j) i i2 e e1 e2 e2 HU.out.2.2.2 hib2 (by omega) HE1.out H2.out.2.2 (by rw [if_neg hlt])
                    rw [← H.out.2.2, HN.out, q, show 5 - (j + 1) = 4 - j by omega]⟩
    · have hj' : j = 5 := by omega
      subst hj'
      go_wp2
      go_ret
      have q := H.out.2.2
      rw [← q]
      exact ⟨rfl, H.out.1, H.out.2.1⟩
end Go.Proofs.YtkkkldglceiiiaaGreat
