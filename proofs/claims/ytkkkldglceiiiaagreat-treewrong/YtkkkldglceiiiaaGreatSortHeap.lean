/- slices' heap sort at places: what it makes of a row. -/
import Derived.Test.YtkkkldglceiiiaaGreatSortIns
namespace Go.Proofs.YtkkkldglceiiiaaGreat
open Go.ChangeShapes Go.WideShapes Go.ChangeAt Go.RowKit
open Go.Sort (swp ltInt)
set_option linter.unusedVariables false

theorem sift_end (hi first root : Nat) (d : Array Int) (h : ¬ 2 * root + 1 < hi) : Sort.siftDown ltInt hi first root d = d := by
  rw [Sort.siftDown, dif_pos (by omega)]
theorem sift_two (hi first root : Nat) (d : Array Int) (h : 2 * root + 2 < hi) (hl : ltInt d[first + (2 * root + 1)]! d[first + (2 * root + 2)]! = true) :
    Sort.siftDown ltInt hi first root d = if ltInt d[first + root]! d[first + (2 * root + 2)]! = true then Sort.siftDown ltInt hi first (2 * root + 2) (swp d (first + root) (first + (2 * root + 2))) else d := by
  rw [Sort.siftDown, dif_neg (by omega), if_pos (by rw [show first + (2 * root + 1) + 1 = first + (2 * root + 2) by omega, hl]; simp; omega), dif_pos h]
  cases ltInt d[first + root]! d[first + (2 * root + 2)]! <;> rfl
theorem sift_one (hi first root : Nat) (d : Array Int) (h : 2 * root + 1 < hi) (hl : ¬ 2 * root + 2 < hi ∨ ltInt d[first + (2 * root + 1)]! d[first + (2 * root + 2)]! = false) :
    Sort.siftDown ltInt hi first root d = if ltInt d[first + root]! d[first + (2 * root + 1)]! = true then Sort.siftDown ltInt hi first (2 * root + 1) (swp d (first + root) (first + (2 * root + 1))) else d := by
  rw [Sort.siftDown, dif_neg (by omega), if_neg]
  · cases ltInt d[first + root]! d[first + (2 * root + 1)]! <;> rfl
  · rw [show first + (2 * root + 1) + 1 = first + (2 * root + 2) by omega]
    rcases hl with h | h
    · simp; intro h2; omega
    · rw [h]; simp

theorem sift_any (blk off cap lo hi first : Nat) (d : Array Int) (w : World) (hR : Row w blk off d) (hlo : lo < 4611686018427387904) (hb : first + hi ≤ d.size) (hsz : d.size < 4611686018427387904) :
    Calls Tryz.prog 81 #[.slice (some ⟨blk, off, none⟩) d.size cap, .int .i64 lo, .int .i64 hi, .int .i64 first] w fun e w' =>
      e = .returned (.tuple #[]) ∧ RK w w' blk ∧ Row w' blk off (Sort.siftDown ltInt hi first lo d) := by
  have HR : Hid (Row w blk off d) := hR
  clear hR
  go_enter Tryz.func81, Tryz.ntmps81
  go_wp2
  go_loopw [8] (fun vi wr => ∃ (i : Nat) (e : Array Int), vi = .int .i64 i ∧ i < 4611686018427387904 ∧ e.size = d.size ∧ RK w wr blk ∧ Row wr blk off e ∧
      Sort.siftDown ltInt hi first i e = Sort.siftDown ltInt hi first lo d) (fun vi _ => hi - nat' vi)
  case atStart => exact ⟨lo, d, rfl, hlo, rfl, RK.refl _ _, HR.out, rfl⟩
  case round =>
    obtain ⟨i, e, rfl, hi62, hse, hK, hRow, hO⟩ := hrel
    obtain ⟨G, hG, hcell, hfro⟩ := hRow.fam d.size hse
    have H : Hid ((∀ t, G t = e[t]!) ∧ RK w wr blk ∧ Row wr blk off e ∧ Sort.siftDown ltInt hi first i e = Sort.siftDown ltInt hi first lo d) := ⟨hG, hK, hRow, hO⟩
    clear hG hK hRow hO
    go_wp2
    · have hge : ¬ 2 * i + 1 < hi := by omega
      go_end0
      exact ⟨rfl, H.out.2.1, by rw [← H.out.2.2.2, sift_end _ _ _ _ hge]; exact H.out.2.2.1⟩
    · have hlt : 2 * i + 1 < hi := by omega
      obtain ⟨c, hc⟩ : ∃ c : Nat, c = 2 * i + 1 := ⟨_, rfl⟩
      have hic : i < c := by omega
      have hch : c < hi := by omega
      rw [show 2 * (i : Int) + 1 = (c : Int) by omega]
      have hc62 : c < 4611686018427387904 := by omega
      have hf62 : first < 4611686018427387904 := by omega
      have HC : Hid (c = 2 * i + 1) := hc
      clear hc hlt
      have TWO : Hid (ltInt (G (first + c)) (G (first + c + 1)) = true → c + 1 < hi → Sort.siftDown ltInt hi first i e = if ltInt e[first + i]! e[first + (c + 1)]! = true then Sort.siftDown ltInt hi first (c + 1) (swp e (first + i) (first + (c + 1))) else e) := fun hl h2 => by
        have q := HC.out
        subst q
        exact sift_two hi first i e h2 (by rw [← H.out.1, ← H.out.1]; exact hl)
      have ONE : Hid (¬ c + 1 < hi ∨ ltInt (G (first + c)) (G (first + c + 1)) = false → Sort.siftDown ltInt hi first i e = if ltInt e[first + i]! e[first + c]! = true then Sort.siftDown ltInt hi first c (swp e (first + i) (first + c)) else e) := fun hl => by
        have q := HC.out
        subst q
        exact sift_one hi first i e hch (hl.imp id (fun hl => by rw [← H.out.1, ← H.out.1]; exact hl))
      by_cases h2 : (c : Int) + 1 < hi
      · go_quiet (first | (go_at_call 64; refine Calls.quiet_of_same (less_any _ _ _)))
        go_wp2
        · have hl2 : ltInt (G (first + c)) (G (first + c + 1)) = true := by assumption
          obtain ⟨g, hg⟩ : ∃ g : Nat, g = c + 1 := ⟨_, rfl⟩
          have hgh : g < hi := by omega
          have hig : i < g := by omega
          rw [show (c : Int) + 1 = (g : Int) by omega]
          have F : Hid (Sort.siftDown ltInt hi first i e = if ltInt e[first + i]! e[first + g]! = true then Sort.siftDown ltInt hi first g (swp e (first + i) (first + g)) else e) := by
            subst hg; exact TWO.out hl2 hgh
          clear hl2 hg h2
          obtain ⟨wd, hwd⟩ : ∃ wd, wd = wr.drewN nq := ⟨_, rfl⟩
          rw [← hwd]
          have HD : Hid (RK w wd blk ∧ Row wd blk off e) := by rw [hwd]; exact still_step H.out.2.1 H.out.2.2.1 nq
          replace hcell : ∀ t, t < d.size → wd.cell? ⟨blk, off + t, none⟩ = some (.int .u64 (G t)) := by rw [hwd]; exact hcell
          replace hfro : ∀ t, t < d.size → wd.frozen? ⟨blk, off + t, none⟩ = false := by rw [hwd]; exact hfro
          clear hwd
          go_quiet (first | (go_at_call 64; refine Calls.quiet_of_same (less_any _ _ _)))
          go_wp2
          · have hl : ltInt (G (first + i)) (G (first + g)) = false := not_true_of (by assumption)
            refine bodyPost_ret (results_none rfl _ _ _) rfl ?_
            exact ⟨rfl, (still_step HD.out.1 HD.out.2 _).1, by
              rw [← H.out.2.2.2, F.out, if_neg (by rw [← H.out.1, ← H.out.1, hl]; decide)]; exact (still_step HD.out.1 HD.out.2 _).2⟩
          · have hl : ltInt (G (first + i)) (G (first + g)) = true := not_false_of (by assumption)
            go_region
            all_goals go_wp2
            go_roundw
            case rel =>
              have st := swap_step HD.out.1 HD.out.2 (nq + 1) (first + i) (first + g) (by omega) (by omega) (G (first + i)) (G (first + g)) (H.out.1 _) (H.out.1 _)
              exact ⟨g, swp e (first + i) (first + g), rfl, by omega, by rw [swp_size]; exact hse, st.1, st.2, by
                rw [← H.out.2.2.2, F.out, if_pos (by rw [← H.out.1, ← H.out.1, hl])]⟩
            case measure => simp [nat']; omega
        · have hl2 : ltInt (G (first + c)) (G (first + c + 1)) = false := by assumption
          have F : Hid _ := ONE.out (Or.inr hl2)
          clear hl2
          obtain ⟨wd, hwd⟩ : ∃ wd, wd = wr.drewN nq := ⟨_, rfl⟩
          rw [← hwd]
          have HD : Hid (RK w wd blk ∧ Row wd blk off e) := by rw [hwd]; exact still_step H.out.2.1 H.out.2.2.1 nq
          replace hcell : ∀ t, t < d.size → wd.cell? ⟨blk, off + t, none⟩ = some (.int .u64 (G t)) := by rw [hwd]; exact hcell
          replace hfro : ∀ t, t < d.size → wd.frozen? ⟨blk, off + t, none⟩ = false := by rw [hwd]; exact hfro
          clear hwd
          go_quiet (first | (go_at_call 64; refine Calls.quiet_of_same (less_any _ _ _)))
          go_wp2
          · have hl : ltInt (G (first + i)) (G (first + c)) = false := not_true_of (by assumption)
            refine bodyPost_ret (results_none rfl _ _ _) rfl ?_
            exact ⟨rfl, (still_step HD.out.1 HD.out.2 _).1, by
              rw [← H.out.2.2.2, F.out, if_neg (by rw [← H.out.1, ← H.out.1, hl]; decide)]; exact (still_step HD.out.1 HD.out.2 _).2⟩
          · have hl : ltInt (G (first + i)) (G (first + c)) = true := not_false_of (by assumption)
            go_region
            all_goals go_wp2
            go_roundw
            case rel =>
              have st := swap_step HD.out.1 HD.out.2 (nq + 1) (first + i) (first + c) (by omega) (by omega) (G (first + i)) (G (first + c)) (H.out.1 _) (H.out.1 _)
              exact ⟨c, swp e (first + i) (first + c), rfl, by omega, by rw [swp_size]; exact hse, st.1, st.2, by
                rw [← H.out.2.2.2, F.out, if_pos (by rw [← H.out.1, ← H.out.1, hl])]⟩
            case measure => simp [nat']; omega
      · go_quiet (first | (go_at_call 64; refine Calls.quiet_of_same (less_any _ _ _)))
        go_wp2
        have F : Hid _ := ONE.out (Or.inl (by omega))
        obtain ⟨wd, hwd⟩ : ∃ wd, wd = wr.drewN nq := ⟨_, rfl⟩
        rw [← hwd]
        have HD : Hid (RK w wd blk ∧ Row wd blk off e) := by rw [hwd]; exact still_step H.out.2.1 H.out.2.2.1 nq
        replace hcell : ∀ t, t < d.size → wd.cell? ⟨blk, off + t, none⟩ = some (.int .u64 (G t)) := by rw [hwd]; exact hcell
        replace hfro : ∀ t, t < d.size → wd.frozen? ⟨blk, off + t, none⟩ = false := by rw [hwd]; exact hfro
        clear hwd
        go_quiet (first | (go_at_call 64; refine Calls.quiet_of_same (less_any _ _ _)))
        go_wp2
        · have hl : ltInt (G (first + i)) (G (first + c)) = false := not_true_of (by assumption)
          refine bodyPost_ret (results_none rfl _ _ _) rfl ?_
          exact ⟨rfl, (still_step HD.out.1 HD.out.2 _).1, by
            rw [← H.out.2.2.2, F.out, if_neg (by rw [← H.out.1, ← H.out.1, hl]; decide)]; exact (still_step HD.out.1 HD.out.2 _).2⟩
        · have hl : ltInt (G (first + i)) (G (first + c)) = true := not_false_of (by assumption)
          go_region
          all_goals go_wp2
          go_roundw
          case rel =>
            have st := swap_step HD.out.1 HD.out.2 (nq + 1) (first + i) (first + c) (by omega) (by omega) (G (first + i)) (G (first + c)) (H.out.1 _) (H.out.1 _)
            exact ⟨c, swp e (first + i) (first + c), rfl, by omega, by rw [swp_size]; exact hse, st.1, st.2, by
              rw [← H.out.2.2.2, F.out, if_pos (by rw [← H.out.1, ← H.out.1, hl])]⟩
          case measure => simp [nat']; omega
end Go.Proofs.YtkkkldglceiiiaaGreat
