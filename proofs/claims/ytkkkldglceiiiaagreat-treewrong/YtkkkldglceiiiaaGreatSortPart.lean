/- slices' partition at places: what it makes of a row. -/
import Derived.Test.YtkkkldglceiiiaaGreatSortPartE
namespace Go.Proofs.YtkkkldglceiiiaaGreat
open Go.ChangeShapes Go.WideShapes Go.ChangeAt Go.RowKit
open Go.Sort (swp ltInt scanUp scanDown)
set_option linter.unusedVariables false

theorem part_unf (a i j : Nat) (e : Array Int) (i2 j2 : Nat) (hu : scanUp (fun x => ltInt x e[a]!) e j i = i2) (hd : scanDown (fun x => !ltInt x e[a]!) e i2 j = j2) :
    Sort.partLoop ltInt a i j e = if j2 < i2 then (j2, e) else if h : (j2 - 1) + 1 - (i2 + 1) < j + 1 - i then Sort.partLoop ltInt a (i2 + 1) (j2 - 1) (swp e i2 j2) else (j2, e) := by
  rw [Sort.partLoop]
  subst hu
  subst hd
  rfl
theorem part_top (d : Array Int) (a b pv i2 j2 : Nat) (hu : scanUp (fun x => ltInt x (swp d a pv)[a]!) (swp d a pv) (b - 1) (a + 1) = i2) (hd : scanDown (fun x => !ltInt x (swp d a pv)[a]!) (swp d a pv) i2 (b - 1) = j2) :
    Sort.partition ltInt d a b pv = if j2 < i2 then (j2, true, swp (swp d a pv) j2 a) else
      ((Sort.partLoop ltInt a (i2 + 1) (j2 - 1) (swp (swp d a pv) i2 j2)).1, false, swp (Sort.partLoop ltInt a (i2 + 1) (j2 - 1) (swp (swp d a pv) i2 j2)).2 (Sort.partLoop ltInt a (i2 + 1) (j2 - 1) (swp (swp d a pv) i2 j2)).1 a) := by
  subst hu
  subst hd
  rfl

set_option maxHeartbeats 1000000 in
set_option maxRecDepth 100000 in
theorem part_any (blk off cap a b pv : Nat) (d : Array Int) (w : World) (hR : Row w blk off d) (ha : a ≤ pv) (hpb : pv < b) (hb : b ≤ d.size) (hsz : d.size < 4611686018427387904) :
    Calls Tryz.prog 66 #[.slice (some ⟨blk, off, none⟩) d.size cap, .int .i64 a, .int .i64 b, .int .i64 pv] w fun e w' =>
      e = .returned (.tuple #[.int .i64 (Sort.partition ltInt d a b pv).1, .bool (Sort.partition ltInt d a b pv).2.1]) ∧ RK w w' blk ∧ Row w' blk off (Sort.partition ltInt d a b pv).2.2 := by
  obtain ⟨G0, hG, hcell, hfro⟩ := hR.fam d.size rfl
  have hmid := mid_cell hR a pv (by omega) (by omega) (G0 pv) (hG _)
  have H0 : Hid ((∀ t, G0 t = d[t]!) ∧ Row w blk off d) := ⟨hG, hR⟩
  clear hG hR
  obtain ⟨i, hi⟩ : ∃ i, i = a + 1 := ⟨_, rfl⟩
  obtain ⟨j, hj⟩ : ∃ j, j = b - 1 := ⟨_, rfl⟩
  obtain ⟨e, he⟩ : ∃ e, e = swp d a pv := ⟨_, rfl⟩
  have hai : a < i := by omega
  have hij : i ≤ j + 2 := by omega
  have hjb : j < b := by omega
  have hse : e.size = d.size := by rw [he, swp_size]
  have HI : Hid (i = a + 1 ∧ j = b - 1 ∧ e = swp d a pv) := ⟨hi, hj, he⟩
  clear hi hj he
  go_enter Tryz.func66, Tryz.ntmps66
  go_upto_region 1 with fail
  go_region
  all_goals go_upto_block 0 with fail
  clear hmid hcell hfro
  have q := HI.out
  rw [show (a : Int) + 1 = (i : Int) by omega, show (b : Int) - 1 = (j : Int) by omega]
  clear q
  have st0 := swap_step (RK.refl w blk) H0.out.2 1 a pv (by omega) (by omega) (G0 a) (G0 pv) (H0.out.1 _) (H0.out.1 _)
  rw [← HI.out.2.2] at st0
  have HX : Hid _ := st0
  clear st0
  have H : Hid (True ∧ True ∧ i = a + 1 ∧ j = b - 1 ∧ e = swp d a pv) := ⟨trivial, trivial, HI.out⟩
  go_upto_block 0 with fail
  go_cut [10] from 12 (fun v9 wc => ∃ i2 : Nat, v9 = .int .i64 i2 ∧ i ≤ i2 ∧ i2 ≤ j + 2 ∧ RK w wc blk ∧ Row wc blk off e ∧ scanUp (fun x => ltInt x e[a]!) e j i = i2)
  case first =>
    go_wp2_with fail
    go_loopg [10] (j + 1 - i) (fun k vi wr => ∃ i2 : Nat, vi = .int .i64 i2 ∧ i ≤ i2 ∧ i2 ≤ j + 2 ∧ j + 1 - i2 ≤ k ∧ RK w wr blk ∧ Row wr blk off e ∧ scanUp (fun x => ltInt x e[a]!) e j i = scanUp (fun x => ltInt x e[a]!) e j i2)
    case atStart => exact ⟨i, rfl, Nat.le_refl _, hij, Nat.le_refl _, HX.out.1, HX.out.2, rfl⟩
    case round =>
      obtain ⟨i2, rfl, hii, hi2, hk2, hK, hRow, hS⟩ := hrel
      obtain ⟨G, hG, hcell, hfro⟩ := hRow.fam d.size hse
      have HS : Hid ((∀ t, G t = e[t]!) ∧ RK w wr blk ∧ Row wr blk off e ∧ scanUp (fun x => ltInt x e[a]!) e j i = scanUp (fun x => ltInt x e[a]!) e j i2) := ⟨hG, hK, hRow, hS⟩
      clear hG hK hRow hS
      go_wp2
      by_cases hc : i2 ≤ j
      · go_quiet (first | (go_at_call 64; refine Calls.quiet_of_same (less_any _ _ _)))
        go_wp2
        · have hl : ltInt (G i2) (G a) = true := by assumption
          go_roundg (j - i2)
          case measure => omega
          case rel =>
            have st := still_step HS.out.2.1 HS.out.2.2.1 nq
            exact ⟨i2 + 1, by go_num, by omega, by omega, by omega, st.1, st.2, by
              rw [HS.out.2.2.2, up_on _ _ _ _ hc (by rw [← HS.out.1, ← HS.out.1]; exact hl)]⟩
        · have hl : ltInt (G i2) (G a) = false := by assumption
          go_meet
          case rel =>
            have st := still_step HS.out.2.1 HS.out.2.2.1 nq
            exact ⟨i2, rfl, hii, hi2, st.1, st.2, by rw [HS.out.2.2.2, up_off _ _ _ _ (Or.inr (by rw [← HS.out.1, ← HS.out.1]; exact hl))]⟩
      · go_quiet (first | (go_at_call 64; refine Calls.quiet_of_same (less_any _ _ _)))
        go_wp2
        go_meet
        case rel =>
          have st := still_step HS.out.2.1 HS.out.2.2.1 nq
          exact ⟨i2, rfl, hii, hi2, st.1, st.2, by rw [HS.out.2.2.2, up_off _ _ _ _ (Or.inl hc)]⟩
  case rest =>
    obtain ⟨i2, rfl, hii, hi2, hK, hRow, hS⟩ := hcut
    have HU : Hid (RK w wc blk ∧ Row wc blk off e ∧ scanUp (fun x => ltInt x e[a]!) e j i = i2) := ⟨hK, hRow, hS⟩
    clear hK hRow hS
    go_upto_block 2 with fail
    go_cut [11] from 12 (fun v10 wc => ∃ j2 : Nat, v10 = .int .i64 j2 ∧ j2 ≤ j ∧ i2 ≤ j2 + 2 ∧ RK w wc blk ∧ Row wc blk off e ∧ scanDown (fun x => !ltInt x e[a]!) e i2 j = j2)
    case first =>
      go_wp2_with fail
      go_loopg [11] (j + 1 - i2) (fun k vj wr => ∃ j2 : Nat, vj = .int .i64 j2 ∧ j2 ≤ j ∧ i2 ≤ j2 + 2 ∧ j2 + 1 - i2 ≤ k ∧ RK w wr blk ∧ Row wr blk off e ∧ scanDown (fun x => !ltInt x e[a]!) e i2 j = scanDown (fun x => !ltInt x e[a]!) e i2 j2)
      case atStart => exact ⟨j, rfl, Nat.le_refl _, hi2, Nat.le_refl _, HU.out.1, HU.out.2.1, rfl⟩
      case round =>
        obtain ⟨j2, rfl, hjj, hj2, hk2, hK, hRow, hS⟩ := hrel
        obtain ⟨G, hG, hcell, hfro⟩ := hRow.fam d.size hse
        have HS : Hid ((∀ t, G t = e[t]!) ∧ RK w wr blk ∧ Row wr blk off e ∧ scanDown (fun x => !ltInt x e[a]!) e i2 j = scanDown (fun x => !ltInt x e[a]!) e i2 j2) := ⟨hG, hK, hRow, hS⟩
        clear hG hK hRow hS
        go_wp2
        by_cases hc : i2 ≤ j2
        · go_quiet (first | (go_at_call 64; refine Calls.quiet_of_same (less_any _ _ _)))
          go_wp2
          · have hl : (!ltInt (G j2) (G a)) = true := by assumption
            go_roundg (j2 - i2)
            case measure => omega
            case rel =>
              have st := still_step HS.out.2.1 HS.out.2.2.1 nq
              exact ⟨j2 - 1, by congr 1; omega, by omega, by omega, by omega, st.1, st.2, by
                rw [HS.out.2.2.2, down_on _ _ _ _ (by omega) hc (by rw [← HS.out.1, ← HS.out.1]; exact hl)]⟩
          · have hl : (!ltInt (G j2) (G a)) = false := by assumption
            go_meet
            case rel =>
              have st := still_step HS.out.2.1 HS.out.2.2.1 nq
              exact ⟨j2, rfl, hjj, hj2, st.1, st.2, by rw [HS.out.2.2.2, down_off _ _ _ _ (Or.inr (by rw [← HS.out.1, ← HS.out.1]; exact hl))]⟩
        · go_quiet (first | (go_at_call 64; refine Calls.quiet_of_same (less_any _ _ _)))
          go_wp2
          go_meet
          case rel =>
            have st := still_step HS.out.2.1 HS.out.2.2.1 nq
            exact ⟨j2, rfl, hjj, hj2, st.1, st.2, by rw [HS.out.2.2.2, down_off _ _ _ _ (Or.inl hc)]⟩
    case rest =>
      obtain ⟨j2, rfl, hjj, hj2, hK, hRow, hS⟩ := hcut
      obtain ⟨G, hG, hcell, hfro⟩ := hRow.fam d.size hse
      have HD : Hid ((∀ t, G t = e[t]!) ∧ RK w wc blk ∧ Row wc blk off e ∧ scanDown (fun x => !ltInt x e[a]!) e i2 j = j2) := ⟨hG, hK, hRow, hS⟩
      clear hG hK hRow hS
      go_wp2
      · have hgt : j2 < i2 := by assumption
        have hmid := mid_cell HD.out.2.2.1 j2 a (by omega) (by omega) (G a) (HD.out.1 _)
        go_region
        all_goals go_wp2
        go_ret2
        have st := swap_step HD.out.2.1 HD.out.2.2.1 1 j2 a (by omega) (by omega) (G j2) (G a) (HD.out.1 _) (HD.out.1 _)
        have E : Sort.partition ltInt d a b pv = (j2, true, swp e j2 a) := by rw [part_top d a b pv i2 j2 (by have q := HU.out.2.2; rw [H.out.2.2.1, H.out.2.2.2.1, H.out.2.2.2.2] at q; exact q) (by have q := HD.out.2.2.2; rw [H.out.2.2.2.1, H.out.2.2.2.2] at q; exact q), if_pos hgt, H.out.2.2.2.2]
        rw [E]
        exact ⟨rfl, st.1, st.2⟩
      · have hle : ¬ j2 < i2 := by omega
        have E0 : Hid (Sort.partition ltInt d a b pv = ((Sort.partLoop ltInt a (i2 + 1) (j2 - 1) (swp e i2 j2)).1, false, swp (Sort.partLoop ltInt a (i2 + 1) (j2 - 1) (swp e i2 j2)).2 (Sort.partLoop ltInt a (i2 + 1) (j2 - 1) (swp e i2 j2)).1 a)) := by
          show _ = _
          rw [part_top d a b pv i2 j2 (by have q := HU.out.2.2; rw [H.out.2.2.1, H.out.2.2.2.1, H.out.2.2.2.2] at q; exact q) (by have q := HD.out.2.2.2; rw [H.out.2.2.2.1, H.out.2.2.2.2] at q; exact q), if_neg hle, H.out.2.2.2.2]
        have hmid := mid_cell HD.out.2.2.1 i2 j2 (by omega) (by omega) (G j2) (HD.out.1 _)
        obtain ⟨i1, hi1⟩ : ∃ i1, i1 = i2 := ⟨_, rfl⟩
        obtain ⟨j1, hj1⟩ : ∃ j1, j1 = j2 := ⟨_, rfl⟩
        obtain ⟨d1, hd1⟩ : ∃ d1, d1 = e := ⟨_, rfl⟩
        subst hi1 hj1 hd1
        go_region
        all_goals go_wp2_with (fail)
        clear hmid
        go_loopg [10, 11] (b - a) (fun k vi vj wr => ∃ (i j : Nat) (e : Array Int), vi = .int .i64 i ∧ vj = .int .i64 j ∧ a < i ∧ i ≤ j + 2 ∧ j < b ∧ j + 1 - i ≤ k ∧ e.size = d.size ∧ RK w wr blk ∧ Row wr blk off e ∧
            Sort.partLoop ltInt a i j e = Sort.partLoop ltInt a (i1 + 1) (j1 - 1) (swp d1 i1 j1))
        case atStart =>
          have st := swap_step HD.out.2.1 HD.out.2.2.1 1 i1 j1 (by omega) (by omega) (G i1) (G j1) (HD.out.1 _) (HD.out.1 _)
          exact ⟨i1 + 1, j1 - 1, swp d1 i1 j1, by go_num, by congr 1; omega, by omega, by omega, by omega, by omega, by rw [swp_size]; exact hse, st.1, st.2, rfl⟩
        case round =>
          clear HD HU H hcell hfro
          obtain ⟨i, j, e, rfl, rfl, hai, hij, hjb, hgk, hse, hK, hRow, hO⟩ := hrel
          have H : Hid (RK w wr blk ∧ Row wr blk off e ∧ Sort.partLoop ltInt a i j e = Sort.partLoop ltInt a (i1 + 1) (j1 - 1) (swp d1 i1 j1)) := ⟨hK, hRow, hO⟩
          clear hK hRow hO
          go_upto_block 6 with fail
          go_cut [10] from 99 to 152 (fun v9 wc => ∃ i2 : Nat, v9 = .int .i64 i2 ∧ i ≤ i2 ∧ i2 ≤ j + 2 ∧ RK w wc blk ∧ Row wc blk off e ∧ scanUp (fun x => ltInt x e[a]!) e j i = i2)
          case first =>
            go_wp2_with fail
            go_loopg [10] (j + 1 - i) (fun k vi wr => ∃ i2 : Nat, vi = .int .i64 i2 ∧ i ≤ i2 ∧ i2 ≤ j + 2 ∧ j + 1 - i2 ≤ k ∧ RK w wr blk ∧ Row wr blk off e ∧ scanUp (fun x => ltInt x e[a]!) e j i = scanUp (fun x => ltInt x e[a]!) e j i2)
            case atStart => exact ⟨i, rfl, Nat.le_refl _, hij, Nat.le_refl _, H.out.1, H.out.2.1, rfl⟩
            case round =>
              obtain ⟨i2, rfl, hii, hi2, hk2, hK, hRow, hS⟩ := hrel
              obtain ⟨G, hG, hcell, hfro⟩ := hRow.fam d.size hse
              have HS : Hid ((∀ t, G t = e[t]!) ∧ RK w wr blk ∧ Row wr blk off e ∧ scanUp (fun x => ltInt x e[a]!) e j i = scanUp (fun x => ltInt x e[a]!) e j i2) := ⟨hG, hK, hRow, hS⟩
              clear hG hK hRow hS
              go_wp2
              by_cases hc : i2 ≤ j
              · go_quiet (first | (go_at_call 64; refine Calls.quiet_of_same (less_any _ _ _)))
                go_wp2
                · have hl : ltInt (G i2) (G a) = true := by assumption
                  go_roundg (j - i2)
                  case measure => omega
                  case rel =>
                    have st := still_step HS.out.2.1 HS.out.2.2.1 nq
                    exact ⟨i2 + 1, by go_num, by omega, by omega, by omega, st.1, st.2, by
                      rw [HS.out.2.2.2, up_on _ _ _ _ hc (by rw [← HS.out.1, ← HS.out.1]; exact hl)]⟩
                · have hl : ltInt (G i2) (G a) = false := by assumption
                  go_meet
                  case rel =>
                    have st := still_step HS.out.2.1 HS.out.2.2.1 nq
                    exact ⟨i2, rfl, hii, hi2, st.1, st.2, by rw [HS.out.2.2.2, up_off _ _ _ _ (Or.inr (by rw [← HS.out.1, ← HS.out.1]; exact hl))]⟩
              · go_quiet (first | (go_at_call 64; refine Calls.quiet_of_same (less_any _ _ _)))
                go_wp2
                go_meet
                case rel =>
                  have st := still_step HS.out.2.1 HS.out.2.2.1 nq
                  exact ⟨i2, rfl, hii, hi2, st.1, st.2, by rw [HS.out.2.2.2, up_off _ _ _ _ (Or.inl hc)]⟩
          case rest =>
            obtain ⟨i2, rfl, hii, hi2, hK, hRow, hS⟩ := hcut
            have HU : Hid (RK w wc blk ∧ Row wc blk off e ∧ scanUp (fun x => ltInt x e[a]!) e j i = i2) := ⟨hK, hRow, hS⟩
            clear hK hRow hS
            go_upto_block 8 with fail
            go_cut [11] from 99 to 152 (fun v10 wc => ∃ j2 : Nat, v10 = .int .i64 j2 ∧ j2 ≤ j ∧ i2 ≤ j2 + 2 ∧ RK w wc blk ∧ Row wc blk off e ∧ scanDown (fun x => !ltInt x e[a]!) e i2 j = j2)
            case first =>
              go_wp2_with fail
              go_loopg [11] (j + 1 - i2) (fun k vj wr => ∃ j2 : Nat, vj = .int .i64 j2 ∧ j2 ≤ j ∧ i2 ≤ j2 + 2 ∧ j2 + 1 - i2 ≤ k ∧ RK w wr blk ∧ Row wr blk off e ∧ scanDown (fun x => !ltInt x e[a]!) e i2 j = scanDown (fun x => !ltInt x e[a]!) e i2 j2)
              case atStart => exact ⟨j, rfl, Nat.le_refl _, hi2, Nat.le_refl _, HU.out.1, HU.out.2.1, rfl⟩
              case round =>
                obtain ⟨j2, rfl, hjj, hj2, hk2, hK, hRow, hS⟩ := hrel
                obtain ⟨G, hG, hcell, hfro⟩ := hRow.fam d.size hse
                have HS : Hid ((∀ t, G t = e[t]!) ∧ RK w wr blk ∧ Row wr blk off e ∧ scanDown (fun x => !ltInt x e[a]!) e i2 j = scanDown (fun x => !ltInt x e[a]!) e i2 j2) := ⟨hG, hK, hRow, hS⟩
                clear hG hK hRow hS
                go_wp2
                by_cases hc : i2 ≤ j2
                · go_quiet (first | (go_at_call 64; refine Calls.quiet_of_same (less_any _ _ _)))
                  go_wp2
                  · have hl : (!ltInt (G j2) (G a)) = true := by assumption
                    go_roundg (j2 - i2)
                    case measure => omega
                    case rel =>
                      have st := still_step HS.out.2.1 HS.out.2.2.1 nq
                      exact ⟨j2 - 1, by congr 1; omega, by omega, by omega, by omega, st.1, st.2, by
                        rw [HS.out.2.2.2, down_on _ _ _ _ (by omega) hc (by rw [← HS.out.1, ← HS.out.1]; exact hl)]⟩
                  · have hl : (!ltInt (G j2) (G a)) = false := by assumption
                    go_meet
                    case rel =>
                      have st := still_step HS.out.2.1 HS.out.2.2.1 nq
                      exact ⟨j2, rfl, hjj, hj2, st.1, st.2, by rw [HS.out.2.2.2, down_off _ _ _ _ (Or.inr (by rw [← HS.out.1, ← HS.out.1]; exact hl))]⟩
                · go_quiet (first | (go_at_call 64; refine Calls.quiet_of_same (less_any _ _ _)))
                  go_wp2
                  go_meet
                  case rel =>
                    have st := still_step HS.out.2.1 HS.out.2.2.1 nq
                    exact ⟨j2, rfl, hjj, hj2, st.1, st.2, by rw [HS.out.2.2.2, down_off _ _ _ _ (Or.inl hc)]⟩
            case rest =>
              obtain ⟨j2, rfl, hjj, hj2, hK, hRow, hS⟩ := hcut
              obtain ⟨G, hG, hcell, hfro⟩ := hRow.fam d.size hse
              have HD : Hid ((∀ t, G t = e[t]!) ∧ RK w wc blk ∧ Row wc blk off e ∧ scanDown (fun x => !ltInt x e[a]!) e i2 j = j2) := ⟨hG, hK, hRow, hS⟩
              clear hG hK hRow hS
              go_wp2
              · have hgt : j2 < i2 := by assumption
                have q : Sort.partLoop ltInt a i j e = (j2, e) := by rw [part_unf a i j e i2 j2 HU.out.2.2 HD.out.2.2.2, if_pos hgt]
                have hmid := mid_cell HD.out.2.2.1 j2 a (by omega) (by omega) (G a) (HD.out.1 _)
                go_region
                all_goals go_wp2
                go_ret2
                have st := swap_step HD.out.2.1 HD.out.2.2.1 1 j2 a (by omega) (by omega) (G j2) (G a) (HD.out.1 _) (HD.out.1 _)
                rw [E0.out, ← H.out.2.2, q]
                exact ⟨rfl, st.1, st.2⟩
              · have hle : ¬ j2 < i2 := by omega
                have hmid := mid_cell HD.out.2.2.1 i2 j2 (by omega) (by omega) (G j2) (HD.out.1 _)
                go_region
                all_goals go_wp2
                go_roundg (j2 - i2)
                case measure => omega
                case rel =>
                  have st := swap_step HD.out.2.1 HD.out.2.2.1 1 i2 j2 (by omega) (by omega) (G i2) (G j2) (HD.out.1 _) (HD.out.1 _)
                  exact ⟨i2 + 1, j2 - 1, swp e i2 j2, by go_num, by congr 1; omega, by omega, by omega, by omega, by omega, by rw [swp_size]; exact hse, st.1, st.2, by
                    rw [← H.out.2.2, part_unf a i j e i2 j2 HU.out.2.2 HD.out.2.2.2, if_neg hle, dif_pos (by omega)]⟩
end Go.Proofs.YtkkkldglceiiiaaGreat
