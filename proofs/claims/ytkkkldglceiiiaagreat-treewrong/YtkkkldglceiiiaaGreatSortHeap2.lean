/- slices' heap sort and reverseRange at places: what they make of a row. -/
import Derived.Test.YtkkkldglceiiiaaGreatSortHeap
namespace Go.Proofs.YtkkkldglceiiiaaGreat
open Go.ChangeShapes Go.WideShapes Go.ChangeAt Go.RowKit
open Go.Sort (swp ltInt)
set_option linter.unusedVariables false

def int' : Value → Int | .int _ q => q | _ => 0

theorem siftDown_size (hi first root : Nat) (d : Array Int) : (Sort.siftDown ltInt hi first root d).size = d.size := by
  induction hn : hi - root using Nat.strongRecOn generalizing root d with
  | _ n ih =>
    subst hn
    by_cases h : 2 * root + 1 < hi
    · by_cases h2 : 2 * root + 2 < hi ∧ ltInt d[first + (2 * root + 1)]! d[first + (2 * root + 2)]! = true
      · rw [sift_two _ _ _ _ h2.1 h2.2]
        split
        · rw [ih (hi - (2 * root + 2)) (by omega) _ _ rfl, swp_size]
        · rfl
      · rw [sift_one _ _ _ _ h (by
          by_cases h3 : 2 * root + 2 < hi
          · right; cases hc : ltInt d[first + (2 * root + 1)]! d[first + (2 * root + 2)]! with
            | false => rfl
            | true => exact absurd ⟨h3, hc⟩ h2
          · exact Or.inl h3)]
        split
        · rw [ih (hi - (2 * root + 1)) (by omega) _ _ rfl, swp_size]
        · rfl
    · rw [sift_end _ _ _ _ h]

theorem heap_any (blk off cap a b : Nat) (d : Array Int) (w : World) (hR : Row w blk off d) (hab : a < b) (hb : b ≤ d.size) (hsz : d.size < 4611686018427387904) :
    Calls Tryz.prog 59 #[.slice (some ⟨blk, off, none⟩) d.size cap, .int .i64 a, .int .i64 b] w fun e w' =>
      e = .returned (.tuple #[]) ∧ RK w w' blk ∧ Row w' blk off (Sort.heapSort ltInt d a b) := by
  have HR : Hid (Row w blk off d) := hR
  clear hR
  obtain ⟨hi, hhi⟩ : ∃ hi : Nat, hi = b - a := ⟨_, rfl⟩
  obtain ⟨m, hm⟩ : ∃ m : Nat, m = (hi - 1) / 2 := ⟨_, rfl⟩
  have hhi62 : hi < 4611686018427387904 := by omega
  have hm1 : m < hi := by omega
  have hah : a + hi ≤ d.size := by omega
  go_enter Tryz.func59, Tryz.ntmps59
  go_wp2
  have e1 : (b : Int) - a = (hi : Int) := by omega
  have e2 : ((hi : Int) - 1) / 2 = (m : Int) := by omega
  simp only [e1]
  simp only [e2]
  have HH : Hid (hi = b - a ∧ m = (hi - 1) / 2) := ⟨hhi, hm⟩
  clear hhi hm e1 e2
  go_loopw [9] (fun vi wr => ∃ (k : Nat) (e : Array Int), vi = .int .i64 ((k : Int) - 1) ∧ k ≤ m + 1 ∧ e.size = d.size ∧ RK w wr blk ∧ Row wr blk off e ∧
      Sort.heapBuild ltInt hi a k e = Sort.heapBuild ltInt hi a (m + 1) d) (fun vi _ => (int' vi + 1).toNat)
  case atStart => exact ⟨m + 1, d, by congr 1; omega, by omega, rfl, RK.refl _ _, HR.out, rfl⟩
  case round =>
    obtain ⟨k, e, rfl, hkm, hse, hK, hRow, hO⟩ := hrel
    have H : Hid (RK w wr blk ∧ Row wr blk off e ∧ Sort.heapBuild ltInt hi a k e = Sort.heapBuild ltInt hi a (m + 1) d) := ⟨hK, hRow, hO⟩
    clear hK hRow hO
    by_cases hk : k = 0
    · subst hk
      go_wp2
      rw [show ((0 : Nat) : Int) - 1 = -1 from rfl]
      have HB : Hid (RK w wr blk ∧ Row wr blk off e ∧ Sort.heapPop ltInt a hi e = Sort.heapSort ltInt d a b) := ⟨H.out.1, H.out.2.1, by
        have q := H.out.2.2
        rw [Sort.heapBuild] at q
        rw [q, Sort.heapSort, ← HH.out.1, ← HH.out.2]⟩
      clear H
      go_loopw [10] (fun vi wr => ∃ (k : Nat) (c : Array Int), vi = .int .i64 ((k : Int) - 1) ∧ k ≤ hi ∧ c.size = d.size ∧ RK w wr blk ∧ Row wr blk off c ∧
          Sort.heapPop ltInt a k c = Sort.heapSort ltInt d a b) (fun vi _ => (int' vi + 1).toNat)
      case atStart => exact ⟨hi, e, rfl, Nat.le_refl _, hse, HB.out.1, HB.out.2.1, HB.out.2.2⟩
      case round =>
        obtain ⟨k, c, rfl, hkm, hsc, hK, hRow, hO⟩ := hrel
        obtain ⟨G, hG, hcell, hfro⟩ := hRow.fam d.size hsc
        have H : Hid ((∀ t, G t = c[t]!) ∧ RK w wr blk ∧ Row wr blk off c ∧ Sort.heapPop ltInt a k c = Sort.heapSort ltInt d a b) := ⟨hG, hK, hRow, hO⟩
        clear hG hK hRow hO
        by_cases hk : k = 0
        · subst hk
          go_wp2
          go_end0
          have q := H.out.2.2.2
          rw [Sort.heapPop] at q
          exact ⟨rfl, H.out.2.1, by rw [← q]; exact H.out.2.2.1⟩
        · obtain ⟨j, hj⟩ : ∃ j : Nat, k = j + 1 := ⟨k - 1, by omega⟩
          subst hj
          rw [show ((j + 1 : Nat) : Int) - 1 = (j : Int) by omega]
          have hmid := mid_cell H.out.2.2.1 a (a + j) (by omega) (by omega) (G (a + j)) (H.out.1 _)
          go_wp2
          go_region
          all_goals go_wp2_with (first
            | (go_at_call 81
               have st := swap_step H.out.2.1 H.out.2.2.1 1 a (a + j) (by omega) (by omega) (G a) (G (a + j)) (H.out.1 _) (H.out.1 _)
               have hsw : (swp c a (a + j)).size = d.size := by rw [swp_size]; exact hsc
               have q := sift_any blk off cap 0 j a (swp c a (a + j)) _ st.2 (by omega) (by omega) (by omega)
               rw [hsw] at q
               refine q.mono ?_
               rintro e' w' ⟨rfl, hK', hR'⟩))
          go_roundw
          case rel => exact ⟨j, _, rfl, by omega, by rw [siftDown_size]; exact hsw, st.1.trans hK', hR', by rw [← H.out.2.2.2, Sort.heapPop]⟩
          case measure => simp [int']
    · obtain ⟨j, hj⟩ : ∃ j : Nat, k = j + 1 := ⟨k - 1, by omega⟩
      subst hj
      rw [show ((j + 1 : Nat) : Int) - 1 = (j : Int) by omega]
      go_wp2_with (first
        | (go_at_call 81
           have q := sift_any blk off cap j hi a e _ H.out.2.1 (by omega) (by omega) (by omega)
           rw [hse] at q
           refine q.mono ?_
           rintro e' w' ⟨rfl, hK', hR'⟩))
      exact ⟨⟨j, _, rfl, by omega, by rw [siftDown_size]; exact hse, H.out.1.trans hK', hR', by rw [← H.out.2.2, Sort.heapBuild]⟩, by simp [int']⟩

theorem rev_any (blk off cap a b : Nat) (d : Array Int) (w : World) (hR : Row w blk off d) (hab : a < b) (hb : b ≤ d.size) (hsz : d.size < 4611686018427387904) :
    Calls Tryz.prog 62 #[.slice (some ⟨blk, off, none⟩) d.size cap, .int .i64 a, .int .i64 b] w fun e w' =>
      e = .returned (.tuple #[]) ∧ RK w w' blk ∧ Row w' blk off (Sort.reverseRange d a b) := by
  have HR : Hid (Row w blk off d) := hR
  clear hR
  go_enter Tryz.func62, Tryz.ntmps62
  go_wp2
  go_loopw [6, 7] (fun vi vj wr => ∃ (i j : Nat) (e : Array Int), vi = .int .i64 i ∧ vj = .int .i64 j ∧ a ≤ i ∧ j < b ∧ i < b + 1 ∧ e.size = d.size ∧ RK w wr blk ∧ Row wr blk off e ∧
      Sort.reverseLoop i j e = Sort.reverseRange d a b) (fun _ vj _ => nat' vj)
  case atStart => exact ⟨a, b - 1, d, rfl, by congr 1; omega, by omega, by omega, by omega, rfl, RK.refl _ _, HR.out, rfl⟩
  case round =>
    obtain ⟨i, j, e, rfl, rfl, hai, hjb, hib, hse, hK, hRow, hO⟩ := hrel
    obtain ⟨G, hG, hcell, hfro⟩ := hRow.fam d.size hse
    have H : Hid ((∀ t, G t = e[t]!) ∧ RK w wr blk ∧ Row wr blk off e ∧ Sort.reverseLoop i j e = Sort.reverseRange d a b) := ⟨hG, hK, hRow, hO⟩
    clear hG hK hRow hO
    go_wp2
    · have hij : i < j := by assumption
      go_region
      all_goals go_wp2
      go_roundw
      case rel =>
        have st := swap_step H.out.2.1 H.out.2.2.1 1 i j (by omega) (by omega) (G i) (G j) (H.out.1 _) (H.out.1 _)
        exact ⟨i + 1, j - 1, swp e i j, by go_num, by congr 1; omega, by omega, by omega, by omega, by rw [swp_size]; exact hse, st.1, st.2, by rw [← H.out.2.2.2, Sort.reverseLoop.eq_def i j e, if_pos hij]⟩
      case measure => simp [nat']; omega
    · have hij : ¬ i < j := by assumption
      go_end0
      exact ⟨rfl, H.out.2.1, by rw [← H.out.2.2.2, Sort.reverseLoop, if_neg hij]; exact H.out.2.2.1⟩
end Go.Proofs.YtkkkldglceiiiaaGreat
