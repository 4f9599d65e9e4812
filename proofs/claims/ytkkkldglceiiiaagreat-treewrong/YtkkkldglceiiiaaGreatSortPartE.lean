/- slices' partitionEqual at places: what it makes of a row. -/
import Derived.Test.YtkkkldglceiiiaaGreatSortPiv2
import Derived.Deep.CutBlock
import Derived.Outline
namespace Go.Proofs.YtkkkldglceiiiaaGreat
open Go.ChangeShapes Go.WideShapes Go.ChangeAt Go.RowKit
open Go.Sort (swp ltInt scanUp scanDown)
set_option linter.unusedVariables false

theorem up_on (p : Int → Bool) (d : Array Int) (j i : Nat) (h : i ≤ j) (hp : p d[i]! = true) : scanUp p d j i = scanUp p d j (i + 1) := by
  rw [scanUp, if_pos (by rw [hp]; simpa using h)]
theorem up_off (p : Int → Bool) (d : Array Int) (j i : Nat) (h : ¬ i ≤ j ∨ p d[i]! = false) : scanUp p d j i = i := by
  rw [scanUp, if_neg]
  rcases h with h | h
  · simp; intro q; omega
  · rw [h]; simp
theorem down_on (p : Int → Bool) (d : Array Int) (i j : Nat) (hi : 0 < i) (h : i ≤ j) (hp : p d[j]! = true) : scanDown p d i j = scanDown p d i (j - 1) := by
  cases j with
  | zero => omega
  | succ k => rw [scanDown, if_pos (by rw [hp]; simpa using h), Nat.add_sub_cancel]
theorem down_off (p : Int → Bool) (d : Array Int) (i j : Nat) (h : ¬ i ≤ j ∨ p d[j]! = false) : scanDown p d i j = j := by
  cases j with
  | zero => rfl
  | succ k =>
    rw [scanDown, if_neg]
    rcases h with h | h
    · simp; intro q; omega
    · rw [h]; simp

theorem parteq_unf (a i j : Nat) (e : Array Int) (i2 j2 : Nat) (hu : scanUp (fun x => !ltInt e[a]! x) e j i = i2) (hd : scanDown (fun x => ltInt e[a]! x) e i2 j = j2) :
    Sort.partEqLoop ltInt a i j e = if j2 < i2 then (i2, e) else if h : (j2 - 1) + 1 - (i2 + 1) < j + 1 - i then Sort.partEqLoop ltInt a (i2 + 1) (j2 - 1) (swp e i2 j2) else (i2, e) := by
  rw [Sort.partEqLoop]
  subst hu
  subst hd
  rfl

theorem parteq_any (blk off cap a b pv : Nat) (d : Array Int) (w : World) (hR : Row w blk off d) (ha : a ≤ pv) (hpb : pv < b) (hb : b ≤ d.size) (hsz : d.size < 4611686018427387904) :
    Calls Tryz.prog 65 #[.slice (some ⟨blk, off, none⟩) d.size cap, .int .i64 a, .int .i64 b, .int .i64 pv] w fun e w' =>
      e = .returned (.int .i64 (Sort.partitionEqual ltInt d a b pv).1) ∧ RK w w' blk ∧ Row w' blk off (Sort.partitionEqual ltInt d a b pv).2 := by
  obtain ⟨G, hG, hcell, hfro⟩ := hR.fam d.size rfl
  have hmid := mid_cell hR a pv (by omega) (by omega) (G pv) (hG _)
  have H0 : Hid ((∀ t, G t = d[t]!) ∧ Row w blk off d) := ⟨hG, hR⟩
  clear hG hR
  go_enter Tryz.func65, Tryz.ntmps65
  go_wp2
  go_region
  all_goals go_wp2_with (fail)
  clear hmid hcell hfro
  go_loopg [9, 10] (b - a) (fun k vi vj wr => ∃ (i j : Nat) (e : Array Int), vi = .int .i64 i ∧ vj = .int .i64 j ∧ a < i ∧ i ≤ j + 2 ∧ j < b ∧ j + 1 - i ≤ k ∧ e.size = d.size ∧ RK w wr blk ∧ Row wr blk off e ∧
      Sort.partEqLoop ltInt a i j e = Sort.partitionEqual ltInt d a b pv)
  case atStart =>
    have st := swap_step (RK.refl w blk) H0.out.2 1 a pv (by omega) (by omega) (G a) (G pv) (H0.out.1 _) (H0.out.1 _)
    exact ⟨a + 1, b - 1, swp d a pv, by go_num, by congr 1; omega, by omega, by omega, by omega, by omega, by rw [swp_size], st.1, st.2, rfl⟩
  case round =>
    clear H0
    obtain ⟨i, j, e, rfl, rfl, hai, hij, hjb, hgk, hse, hK, hRow, hO⟩ := hrel
    have H : Hid (RK w wr blk ∧ Row wr blk off e ∧ Sort.partEqLoop ltInt a i j e = Sort.partitionEqual ltInt d a b pv) := ⟨hK, hRow, hO⟩
    clear hK hRow hO
    go_upto_block 2 with fail
    go_cut [9] from 29 to 82 (fun v9 wc => ∃ i2 : Nat, v9 = .int .i64 i2 ∧ i ≤ i2 ∧ i2 ≤ j + 2 ∧ RK w wc blk ∧ Row wc blk off e ∧ scanUp (fun x => !ltInt e[a]! x) e j i = i2)
    case first =>
      go_wp2_with fail
      go_loopg [9] (j + 1 - i) (fun k vi wr => ∃ i2 : Nat, vi = .int .i64 i2 ∧ i ≤ i2 ∧ i2 ≤ j + 2 ∧ j + 1 - i2 ≤ k ∧ RK w wr blk ∧ Row wr blk off e ∧ scanUp (fun x => !ltInt e[a]! x) e j i = scanUp (fun x => !ltInt e[a]! x) e j i2)
      case atStart => exact ⟨i, rfl, Nat.le_refl _, hij, Nat.le_refl _, H.out.1, H.out.2.1, rfl⟩
      case round =>
        obtain ⟨i2, rfl, hii, hi2, hk2, hK, hRow, hS⟩ := hrel
        obtain ⟨G, hG, hcell, hfro⟩ := hRow.fam d.size hse
        have HS : Hid ((∀ t, G t = e[t]!) ∧ RK w wr blk ∧ Row wr blk off e ∧ scanUp (fun x => !ltInt e[a]! x) e j i = scanUp (fun x => !ltInt e[a]! x) e j i2) := ⟨hG, hK, hRow, hS⟩
        clear hG hK hRow hS
        go_wp2
        by_cases hc : i2 ≤ j
        · go_quiet (first | (go_at_call 64; refine Calls.quiet_of_same (less_any _ _ _)))
          go_wp2
          · have hl : (!ltInt (G a) (G i2)) = true := by assumption
            go_roundg (j - i2)
            case measure => omega
            case rel =>
              have st := still_step HS.out.2.1 HS.out.2.2.1 nq
              exact ⟨i2 + 1, by go_num, by omega, by omega, by omega, st.1, st.2, by
                rw [HS.out.2.2.2, up_on _ _ _ _ hc (by rw [← HS.out.1, ← HS.out.1]; exact hl)]⟩
          · have hl : (!ltInt (G a) (G i2)) = false := by assumption
            go_meet
            case rel =>
              have st := still_step HS.out.2.1 HS.out.2.2.1 nq
              exact ⟨i2, rfl, hii, hi2, st.1, st.2, by rw [HS.out.2.2.2, up_off _ _ _ _ (Or.inr (by rw [← HS.out.1, ← HS.out.1]; exact hl))]⟩
        · go_quiet (first | (go_at_call 64; refine Calls.quiet_of_same (less_any _ _ _)))
          go_wp2
          go_meet
          case rel =>
            have st := still_step HS.out.2.1 HS.out.2.2.1 nq
            exact ⟨i2, rfl, hii, hi2, st.1, st.2, by rw [HS.out.2.2.2, up_off _ _ _ _ (Or.inl hc)]⟩
    case rest =>
      obtain ⟨i2, rfl, hii, hi2, hK, hRow, hS⟩ := hcut
      have HU : Hid (RK w wc blk ∧ Row wc blk off e ∧ scanUp (fun x => !ltInt e[a]! x) e j i = i2) := ⟨hK, hRow, hS⟩
      clear hK hRow hS
      go_upto_block 4 with fail
      go_cut [10] from 29 to 82 (fun v10 wc => ∃ j2 : Nat, v10 = .int .i64 j2 ∧ j2 ≤ j ∧ i2 ≤ j2 + 2 ∧ RK w wc blk ∧ Row wc blk off e ∧ scanDown (fun x => ltInt e[a]! x) e i2 j = j2)
      case first =>
        go_wp2_with fail
        go_loopg [10] (j + 1 - i2) (fun k vj wr => ∃ j2 : Nat, vj = .int .i64 j2 ∧ j2 ≤ j ∧ i2 ≤ j2 + 2 ∧ j2 + 1 - i2 ≤ k ∧ RK w wr blk ∧ Row wr blk off e ∧ scanDown (fun x => ltInt e[a]! x) e i2 j = scanDown (fun x => ltInt e[a]! x) e i2 j2)
        case atStart => exact ⟨j, rfl, Nat.le_refl _, hi2, Nat.le_refl _, HU.out.1, HU.out.2.1, rfl⟩
        case round =>
          obtain ⟨j2, rfl, hjj, hj2, hk2, hK, hRow, hS⟩ := hrel
          obtain ⟨G, hG, hcell, hfro⟩ := hRow.fam d.size hse
          have HS : Hid ((∀ t, G t = e[t]!) ∧ RK w wr blk ∧ Row wr blk off e ∧ scanDown (fun x => ltInt e[a]! x) e i2 j = scanDown (fun x => ltInt e[a]! x) e i2 j2) := ⟨hG, hK, hRow, hS⟩
          clear hG hK hRow hS
          go_wp2
          by_cases hc : i2 ≤ j2
          · go_quiet (first | (go_at_call 64; refine Calls.quiet_of_same (less_any _ _ _)))
            go_wp2
            · have hl : ltInt (G a) (G j2) = true := by assumption
              go_roundg (j2 - i2)
              case measure => omega
              case rel =>
                have st := still_step HS.out.2.1 HS.out.2.2.1 nq
                exact ⟨j2 - 1, by congr 1; omega, by omega, by omega, by omega, st.1, st.2, by
                  rw [HS.out.2.2.2, down_on _ _ _ _ (by omega) hc (by rw [← HS.out.1, ← HS.out.1]; exact hl)]⟩
            · have hl : ltInt (G a) (G j2) = false := by assumption
              go_meet
              case rel =>
                have st := still_step HS.out.2.1 HS.out.2.2.1 nq
                exact ⟨j2, rfl, hjj, hj2, st.1, st.2, by rw [HS.out.2.2.2, down_off _ _ _ _ (Or.inr (by rw [← HS.out.1, ← HS.out.1]; exact hl))]⟩
          · go_quiet (first | (go_at_call 64; refine Calls.quiet_of_same (less_any _ _ _)))
            go_wp2
            go_meet
            case rel =>
              have st := still_step HS.out.2.1 HS.out.2.2.1 nq
              exact ⟨j2, rfl, hjj, hj2, st.1, st.2, by rw [HS.out.2.2.2, down_off _ _ _ _ (Or.inl hc)]⟩
      case rest =>
        obtain ⟨j2, rfl, hjj, hj2, hK, hRow, hS⟩ := hcut
        obtain ⟨G, hG, hcell, hfro⟩ := hRow.fam d.size hse
        have HD : Hid ((∀ t, G t = e[t]!) ∧ RK w wc blk ∧ Row wc blk off e ∧ scanDown (fun x => ltInt e[a]! x) e i2 j = j2) := ⟨hG, hK, hRow, hS⟩
        clear hG hK hRow hS
        go_wp2
        · have hgt : j2 < i2 := by assumption
          go_ret
          have q : Sort.partEqLoop ltInt a i j e = (i2, e) := by rw [parteq_unf a i j e i2 j2 HU.out.2.2 HD.out.2.2.2, if_pos hgt]
          rw [← H.out.2.2, q]
          exact ⟨rfl, HD.out.2.1, HD.out.2.2.1⟩
        · have hle : ¬ j2 < i2 := by omega
          have hmid := mid_cell HD.out.2.2.1 i2 j2 (by omega) (by omega) (G j2) (HD.out.1 _)
          go_region
          all_goals go_wp2
          go_roundg (j2 - i2)
          case measure => omega
          case rel =>
            have st := swap_step HD.out.2.1 HD.out.2.2.1 1 i2 j2 (by omega) (by omega) (G i2) (G j2) (HD.out.1 _) (HD.out.1 _)
            exact ⟨i2 + 1, j2 - 1, swp e i2 j2, by go_num, by congr 1; omega, by omega, by omega, by omega, by omega, by rw [swp_size]; exact hse, st.1, st.2, by
              rw [← H.out.2.2, parteq_unf a i j e i2 j2 HU.out.2.2 HD.out.2.2.2, if_neg hle, dif_pos (by omega)]⟩
end Go.Proofs.YtkkkldglceiiiaaGreat
