/- slices' insertion sort at places: what it makes of a row. -/
import Derived.Test.YtkkkldglceiiiaaGreatSortRow
import Derived.BigGuard
import Derived.BigCall
import Derived.CellFam
import Derived.Deep.Draws
namespace Go.Proofs.YtkkkldglceiiiaaGreat
open Go.ChangeShapes Go.WideShapes Go.ChangeAt Go.RowKit
open Go.Sort (swp ltInt insInner insOuter)
set_option linter.unusedVariables false

theorem inner_on (a j : Nat) (d : Array Int) (hj : a < j) (hl : ltInt d[j]! d[j - 1]! = true) : insInner ltInt a j d = insInner ltInt a (j - 1) (swp d j (j - 1)) := by
  cases j with
  | zero => omega
  | succ k => rw [insInner]; rw [Nat.add_sub_cancel] at hl ⊢; rw [hl, if_pos (by simp; omega)]
theorem inner_off (a j : Nat) (d : Array Int) (h : ¬ a < j ∨ ltInt d[j]! d[j - 1]! = false) : insInner ltInt a j d = d := by
  cases j with
  | zero => rfl
  | succ k =>
    rw [insInner]; rw [Nat.add_sub_cancel] at h
    refine if_neg ?_
    rcases h with h | h
    · simp; intro h2; omega
    · rw [h]; simp

theorem outer_on (a b i : Nat) (d : Array Int) (h : i < b) : insOuter ltInt a b i d = insOuter ltInt a b (i + 1) (insInner ltInt a i d) := by rw [insOuter, if_pos h]

theorem ins_any (blk off cap a b : Nat) (d : Array Int) (w : World) (hR : Row w blk off d) (hab : a ≤ b) (hb : b ≤ d.size) (hsz : d.size < 4611686018427387904) :
    Calls Tryz.prog 58 #[.slice (some ⟨blk, off, none⟩) d.size cap, .int .i64 a, .int .i64 b] w fun e w' =>
      e = .returned (.tuple #[]) ∧ RK w w' blk ∧ Row w' blk off (Sort.insertionSort ltInt d a b) := by
  have HR : Hid (Row w blk off d) := hR
  clear hR
  go_enter Tryz.func58, Tryz.ntmps58
  go_wp2
  go_loopw [6] (fun vi wr => ∃ (i : Nat) (e : Array Int), vi = .int .i64 i ∧ a < i ∧ i ≤ b + 1 ∧ e.size = d.size ∧ RK w wr blk ∧ Row wr blk off e ∧
      insOuter ltInt a b i e = Sort.insertionSort ltInt d a b) (fun vi _ => b + 1 - nat' vi)
  case atStart => exact ⟨a + 1, d, by go_num, by omega, by omega, rfl, RK.refl _ _, HR.out, rfl⟩
  case round =>
    obtain ⟨i, e, rfl, hai, hib, hse, hK, hRow, hO⟩ := hrel
    have HO : Hid (insOuter ltInt a b i e = Sort.insertionSort ltInt d a b ∧ RK w wr blk ∧ Row wr blk off e) := ⟨hO, hK, hRow⟩
    clear hO hK hRow
    go_wp2
    · go_loopw [7] (fun vj wr2 => ∃ (j : Nat) (c : Array Int), vj = .int .i64 j ∧ a ≤ j ∧ j ≤ i ∧ c.size = d.size ∧ RK w wr2 blk ∧ Row wr2 blk off c ∧
          insInner ltInt a j c = insInner ltInt a i e) (fun vj _ => nat' vj)
      case atStart => exact ⟨i, e, rfl, by omega, Nat.le_refl _, hse, HO.out.2.1, HO.out.2.2, rfl⟩
      case round =>
        obtain ⟨j, c, rfl, haj, hji, hsc, hK, hRow, hI⟩ := hrel
        have hlt : i < b := by assumption
        obtain ⟨G, hG, hcell, hfro⟩ := hRow.fam d.size hsc
        have H : Hid ((∀ t, G t = c[t]!) ∧ RK w wr blk ∧ Row wr blk off c ∧ insInner ltInt a j c = insInner ltInt a i e) := ⟨hG, hK, hRow, hI⟩
        clear hG hK hRow hI
        have OUT : Hid ((¬ a < j ∨ ltInt c[j]! c[j - 1]! = false) → ∀ q, ∃ (i' : Nat) (e' : Array Int), Value.int .i64 ((i : Int) + 1) = .int .i64 i' ∧ a < i' ∧ i' ≤ b + 1 ∧ e'.size = d.size ∧ RK w (wr.drewN q) blk ∧ Row (wr.drewN q) blk off e' ∧
            insOuter ltInt a b i' e' = Sort.insertionSort ltInt d a b) := fun hs q =>
          ⟨i + 1, c, by go_num, by omega, by omega, hsc, (still_step H.out.2.1 H.out.2.2.1 q).1, (still_step H.out.2.1 H.out.2.2.1 q).2, by
            rw [← HO.out.1, outer_on _ _ _ _ hlt, ← H.out.2.2.2, inner_off _ _ _ hs]⟩
        go_wp2
        by_cases hja : a < j
        · go_quiet (first | (go_at_call 64; refine Calls.quiet_of_same (less_any _ _ _)))
          go_wp2
          · have hl : ltInt (G j) (G (j - 1)) = true := by assumption
            go_region
            all_goals go_wp2
            go_roundw
            case rel =>
              have st := swap_step H.out.2.1 H.out.2.2.1 (nq + 1) j (j - 1) (by omega) (by omega) (G j) (G (j - 1)) (H.out.1 _) (H.out.1 _)
              refine ⟨j - 1, swp c j (j - 1), by congr 1; omega, by omega, by omega, by rw [swp_size]; exact hsc, st.1, st.2, ?_⟩
              rw [← H.out.2.2.2, inner_on a j c hja (by rw [← H.out.1, ← H.out.1]; exact hl)]
            case measure => simp [nat']; omega
          · have hl : ltInt (G j) (G (j - 1)) = false := by assumption
            go_roundw
            case rel => exact OUT.out (Or.inr (by rw [← H.out.1, ← H.out.1]; exact hl)) nq
            case measure => simp [nat']; omega
        · go_quiet (first | (go_at_call 64; refine Calls.quiet_of_same (less_any _ _ _)))
          go_wp2
          go_roundw
          case rel => exact OUT.out (Or.inl hja) nq
          case measure => simp [nat']; omega
    · have hge : ¬ i < b := by assumption
      go_end0
      exact ⟨rfl, HO.out.2.1, by rw [← HO.out.1, insOuter, if_neg hge]; exact HO.out.2.2⟩
end Go.Proofs.YtkkkldglceiiiaaGreat
