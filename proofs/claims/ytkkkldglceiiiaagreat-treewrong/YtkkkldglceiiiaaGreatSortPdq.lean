/- slices' pdqsort at places: it sorts. -/
import Derived.Test.YtkkkldglceiiiaaGreatSortBrk
import Derived.Sort.AssemblyPlain
import Derived.Sort.Walk13a
namespace Go.Proofs.YtkkkldglceiiiaaGreat
open Go.ChangeShapes Go.WideShapes Go.ChangeAt Go.RowKit
open Go.Sort (swp ltInt PermIn SortedIn)
set_option linter.unusedVariables false

/-- What is sorted in the end. -/
def Fin (a b : Nat) (d : Array Int) (a' b' : Nat) (e : Array Int) : Prop := ∀ R, PermIn a' b' e R → SortedIn ltInt a' b' R → PermIn a b d R ∧ SortedIn ltInt a b R

theorem perm_trans {a b : Nat} {d e f : Array Int} (h : PermIn a b d e) (k : PermIn a b e f) : PermIn a b d f := Sort.permIn_trans _ _ _ _ _ h k

set_option maxHeartbeats 4000000 in
set_option maxRecDepth 100000 in
theorem pdq_any (blk off cap n : Nat) : ∀ (a b limit : Nat) (d : Array Int) (w : World), b - a ≤ n → Row w blk off d → a ≤ b → b ≤ d.size → blk < w.heap.size → d.size < 64 → limit < 64 → Sort.Below ltInt a b d →
    Calls Tryz.prog 44 #[.slice (some ⟨blk, off, none⟩) d.size cap, .int .i64 a, .int .i64 b, .int .i64 limit] w fun e w' =>
      e = .returned (.tuple #[]) ∧ RK w w' blk ∧ ∃ R, Row w' blk off R ∧ PermIn a b d R ∧ SortedIn ltInt a b R := by
  induction n using Nat.strongRecOn with
  | _ n ih =>
  intro a b limit d w hn hR hab hb hblk hsz hlim hB
  have H0 : Hid (Row w blk off d ∧ Sort.Below ltInt a b d) := ⟨hR, hB⟩
  have IH : Hid (∀ m, m < n → ∀ (a b limit : Nat) (d : Array Int) (w : World), b - a ≤ m → Row w blk off d → a ≤ b → b ≤ d.size → blk < w.heap.size → d.size < 64 → limit < 64 → Sort.Below ltInt a b d →
    Calls Tryz.prog 44 #[.slice (some ⟨blk, off, none⟩) d.size cap, .int .i64 a, .int .i64 b, .int .i64 limit] w fun e w' =>
      e = .returned (.tuple #[]) ∧ RK w w' blk ∧ ∃ R, Row w' blk off R ∧ PermIn a b d R ∧ SortedIn ltInt a b R) := ih
  clear hR hB ih
  go_enter Tryz.func44, Tryz.ntmps44
  go_wp2_with (fail)
  go_loopg [1, 2, 3, 8, 9] (b - a) (fun k v1 v2 v3 v8 v9 wr => ∃ (a' b' lim : Nat) (wb wp : Bool) (e : Array Int), v1 = .int .i64 a' ∧ v2 = .int .i64 b' ∧ v3 = .int .i64 lim ∧ v8 = .bool wb ∧ v9 = .bool wp ∧
      a' ≤ b' ∧ b' ≤ d.size ∧ b' - a' ≤ k ∧ b' - a' ≤ n ∧ lim < 64 ∧ e.size = d.size ∧ RK w wr blk ∧ Row wr blk off e ∧ Sort.Below ltInt a' b' e ∧ Fin a b d a' b' e)
  case atStart => exact ⟨a, b, limit, true, true, d, rfl, rfl, rfl, rfl, rfl, hab, hb, Nat.le_refl _, hn, hlim, rfl, RK.refl _ _, H0.out.1, H0.out.2, fun R h1 h2 => ⟨h1, h2⟩⟩
  case round =>
    clear H0
    obtain ⟨a', b', lim, wb, wp, e, rfl, rfl, rfl, rfl, rfl, hab', hb', hgk, hn', hlim', hse, hK, hRow, hBel, hFin⟩ := hrel
    have H : Hid (RK w wr blk ∧ Row wr blk off e ∧ Sort.Below ltInt a' b' e ∧ Fin a b d a' b' e) := ⟨hK, hRow, hBel, hFin⟩
    have hblk' : blk < wr.heap.size := Nat.lt_of_lt_of_le hblk hK.size
    clear hK hRow hBel hFin
    by_cases h12 : (b' : Int) - a' ≤ 12
    · go_wp2_with (first
        | (go_at_call 58
           have q := ins_any blk off cap a' b' e _ H.out.2.1 (by omega) (by omega) (by omega)
           rw [hse] at q
           refine q.mono ?_
           rintro e' w' ⟨rfl, hK', hR'⟩))
      refine bodyPost_ret (results_none rfl _ _ _) rfl ?_
      have s := Sort.insertionSort_holds (lt := ltInt) Sort.swo_ltInt e a' b' hab' (by omega)
      have f := H.out.2.2.2 _ s.1 s.2
      exact ⟨rfl, H.out.1.trans hK', _, hR', f.1, f.2⟩
    · by_cases hl0 : lim = 0
      · subst hl0
        go_wp2_with (first
          | (go_at_call 59
             have q := heap_any blk off cap a' b' e _ H.out.2.1 (by omega) (by omega) (by omega)
             rw [hse] at q
             refine q.mono ?_
             rintro e' w' ⟨rfl, hK', hR'⟩))
        refine bodyPost_ret (results_none rfl _ _ _) rfl ?_
        have s := Sort.heapSort_holds (lt := ltInt) Sort.swo_ltInt e a' b' hab' (by omega)
        have f := H.out.2.2.2 _ s.1 s.2
        exact ⟨rfl, H.out.1.trans hK', _, hR', f.1, f.2⟩
      · have hl1 : ((lim : Int) == 0) = false := by simp; omega
        have hab2 : a' + 12 < b' := by omega
        go_upto_if 35 with fail
        go_cut [3] from 19 to 133 (fun v3 wc => ∃ (lim' : Nat) (d1 : Array Int), v3 = .int .i64 lim' ∧ lim' < 64 ∧ PermIn a' b' e d1 ∧ RK w wc blk ∧ Row wc blk off d1)
        case first =>
          go_wp2_with (first
            | (go_at_call 60
               have q := break_any blk off cap a' b' e _ H.out.2.1 (by omega) (by omega) hblk' (by omega)
               rw [hse] at q
               refine q.mono ?_
               rintro e' w' ⟨rfl, hK', hR'⟩))
          · go_meet
            case rel => exact ⟨lim - 1, _, by congr 1; omega, by omega, Sort.breakPatterns_holds e a' b' hab' (by omega), H.out.1.trans hK', hR'⟩
          · go_meet
            case rel => exact ⟨lim, e, rfl, by omega, Sort.permIn_refl e a' b', H.out.1, H.out.2.1⟩
        case rest =>
          obtain ⟨lim', d1, rfl, hlim1, hP1, hK1, hRow1⟩ := hcut
          have hblk1 : blk < wc.heap.size := Nat.lt_of_lt_of_le hblk hK1.size
          have hs1 : d1.size = d.size := by rw [hP1.1]; exact hse
          obtain ⟨pv, hpv⟩ : ∃ pv, pv = (Sort.choosePivot ltInt d1 a' b').1 := ⟨_, rfl⟩
          obtain ⟨hn0, hhn⟩ : ∃ h, h = hintNo (Sort.choosePivot ltInt d1 a' b').2 := ⟨_, rfl⟩
          have pr := Sort.choosePivot_holds ltInt d1 a' b' (by omega)
          rw [← hpv] at pr
          obtain ⟨pr1, pr2⟩ := pr
          have H1 : Hid (PermIn a' b' e d1 ∧ RK w wc blk ∧ Row wc blk off d1 ∧ pv = (Sort.choosePivot ltInt d1 a' b').1 ∧ hn0 = hintNo (Sort.choosePivot ltInt d1 a' b').2) := ⟨hP1, hK1, hRow1, hpv, hhn⟩
          clear hP1 hK1 hRow1 hpv hhn
          go_upto_if 50 with (first
            | (go_at_call 61
               have q := pivot_any blk off cap a' b' d1 _ H1.out.2.2.1 (by omega) (by omega) hblk1 (by omega)
               rw [← H1.out.2.2.2.1, ← H1.out.2.2.2.2, hs1] at q
               refine q.mono ?_
               rintro e' w2 ⟨rfl, hK2, hR2⟩))
          have H2 : Hid (RK w w2 blk ∧ Row w2 blk off d1) := ⟨H1.out.2.1.trans hK2, hR2⟩
          clear hK2 hR2
          go_cut [11, 12] from 19 to 133 (fun v11 v12 wc => ∃ (pw h2 : Nat) (d2 : Array Int), v11 = .int .i64 pw ∧ v12 = .int .i64 h2 ∧ a' ≤ pw ∧ pw < b' ∧ PermIn a' b' e d2 ∧ RK w wc blk ∧ Row wc blk off d2)
          case first =>
            go_wp2_with (first
              | (go_at_call 62
                 have q := rev_any blk off cap a' b' d1 _ H2.out.2 (by omega) (by omega) (by omega)
                 rw [hs1] at q
                 refine q.mono ?_
                 rintro e' w' ⟨rfl, hK', hR'⟩))
            · go_meet
              case rel => exact ⟨(b' - 1) - (pv - a'), 1, _, by congr 1; omega, rfl, by omega, by omega, perm_trans H1.out.1 (Sort.reverseRange_holds d1 a' b' hab' (by omega)), H2.out.1.trans hK', hR'⟩
            · go_meet
              case rel => exact ⟨pv, hn0, d1, rfl, rfl, pr1, pr2, H1.out.1, H2.out.1, H2.out.2⟩
          case rest =>
            clear H1 H2 pr1 pr2 hs1 hblk1
            obtain ⟨pw, h2, d2, rfl, rfl, pw1, pw2, hP2, hK2, hRow2⟩ := hcut
            have hs2 : d2.size = d.size := by rw [hP2.1]; exact hse
            have H2 : Hid (PermIn a' b' e d2 ∧ RK w wc blk ∧ Row wc blk off d2) := ⟨hP2, hK2, hRow2⟩
            clear hP2 hK2 hRow2
            go_upto_region 15 with fail
            go_cut [68] from 19 to 133 (fun v68 wd => ∃ x : Bool, v68 = .bool x ∧ RK w wd blk ∧ Row wd blk off d2)
            case first =>
              cases wb <;> cases wp <;> go_wp2_with fail
              all_goals go_meet
              all_goals exact ⟨_, rfl, H2.out.2.1, H2.out.2.2⟩
            case rest =>
              obtain ⟨x, rfl, hK3, hRow3⟩ := hcut
              have H3 : Hid (RK w wc blk ∧ Row wc blk off d2) := ⟨hK3, hRow3⟩
              clear hK3 hRow3
              go_upto_if 68 with fail
              go_cut [] from 19 to 133 (fun wd => ∃ d3 : Array Int, PermIn a' b' e d3 ∧ RK w wd blk ∧ Row wd blk off d3)
              case first =>
                have HP : Hid (PermIn a' b' d2 (Sort.partialInsertionSort ltInt d2 a' b').1 ∧ ((Sort.partialInsertionSort ltInt d2 a' b').2 = true → SortedIn ltInt a' b' (Sort.partialInsertionSort ltInt d2 a' b').1)) :=
                  Sort.partialInsertionSort_holds (lt := ltInt) Sort.swo_ltInt d2 a' b' (by omega) (by omega) (H.out.2.2.1.perm (by omega) H2.out.1)
                obtain ⟨fl, hfl⟩ : ∃ fl, fl = (Sort.partialInsertionSort ltInt d2 a' b').2 := ⟨_, rfl⟩
                have HF : Hid (fl = (Sort.partialInsertionSort ltInt d2 a' b').2) := hfl
                clear hfl
                cases x
                · go_wp2_with fail
                  go_meet
                  case rel => exact ⟨d2, H2.out.1, H3.out.1, H3.out.2⟩
                · cases fl
                  · go_wp2_with (first
                      | (go_at_call 63
                         have q := pins_any blk off cap a' b' d2 _ H3.out.2 (by omega) (by omega) (by omega)
                         rw [hs2, ← HF.out] at q
                         refine q.mono ?_
                         rintro e' w' ⟨rfl, hK', hR'⟩))
                    go_meet
                    case rel => exact ⟨_, perm_trans H2.out.1 HP.out.1, H3.out.1.trans hK', hR'⟩
                  · go_wp2_with (first
                      | (go_at_call 63
                         have q := pins_any blk off cap a' b' d2 _ H3.out.2 (by omega) (by omega) (by omega)
                         rw [hs2, ← HF.out] at q
                         refine q.mono ?_
                         rintro e' w' ⟨rfl, hK', hR'⟩))
                    refine bodyPost_ret (results_none rfl _ _ _) rfl ?_
                    have f := H.out.2.2.2 _ (perm_trans H2.out.1 HP.out.1) (HP.out.2 HF.out.symm)
                    exact ⟨rfl, H3.out.1.trans hK', _, hR', f.1, f.2⟩
              case rest =>
                clear H2 H3 hs2
                obtain ⟨d3, hP3, hK3, hRow3⟩ := hcut
                have hs3 : d3.size = d.size := by rw [hP3.1]; exact hse
                obtain ⟨G, hG, hcell, hfro⟩ := hRow3.fam d.size hs3
                have H3 : Hid (PermIn a' b' e d3 ∧ RK w wc blk ∧ Row wc blk off d3 ∧ ∀ t, G t = d3[t]!) := ⟨hP3, hK3, hRow3, hG⟩
                clear hP3 hK3 hRow3 hG
                go_upto_region 17 with fail
                go_cut [87] from 19 to 133 (fun v87 wd => ∃ x : Bool, v87 = .bool x ∧ (x = true → 0 < a' ∧ ltInt d3[a' - 1]! d3[pw]! = false) ∧ RK w wd blk ∧ Row wd blk off d3)
                case first =>
                  by_cases ha0 : 0 < a'
                  · go_quiet (first | (go_at_call 64; refine Calls.quiet_of_same (less_any _ _ _)))
                    go_wp2_with fail
                    go_meet
                    case rel =>
                      have st := still_step H3.out.2.1 H3.out.2.2.1 nq
                      exact ⟨_, rfl, fun q => ⟨by omega, by rw [← H3.out.2.2.2, ← H3.out.2.2.2]; exact not_true_of q⟩, st.1, st.2⟩
                  · go_quiet (first | (go_at_call 64; refine Calls.quiet_of_same (less_any _ _ _)))
                    go_wp2_with fail
                    go_meet
                    case rel =>
                      have st := still_step H3.out.2.1 H3.out.2.2.1 nq
                      exact ⟨false, rfl, fun q => absurd q (by decide), st.1, st.2⟩
                case rest =>
                  obtain ⟨x, rfl, hx, hK4, hRow4⟩ := hcut
                  have hblk4 : blk < wc.heap.size := Nat.lt_of_lt_of_le hblk hK4.size
                  have H4 : Hid (PermIn a' b' e d3 ∧ RK w wc blk ∧ Row wc blk off d3 ∧ (x = true → 0 < a' ∧ ltInt d3[a' - 1]! d3[pw]! = false) ∧ Sort.Below ltInt a' b' d3) := ⟨H3.out.1, hK4, hRow4, hx, H.out.2.2.1.perm (by omega) H3.out.1⟩
                  have HFin : Hid (Fin a b d a' b' e) := H.out.2.2.2
                  clear H3 hx hK4 hRow4 hcell hfro H
                  cases x
                  · obtain ⟨mid, hmid⟩ : ∃ mid, mid = (Sort.partition ltInt d3 a' b' pw).1 := ⟨_, rfl⟩
                    obtain ⟨ap, hap⟩ : ∃ ap, ap = (Sort.partition ltInt d3 a' b' pw).2.1 := ⟨_, rfl⟩
                    obtain ⟨d4, hd4⟩ : ∃ d4, d4 = (Sort.partition ltInt d3 a' b' pw).2.2 := ⟨_, rfl⟩
                    have RP := Sort.round_part (lt := ltInt) Sort.swo_ltInt (Sort.partition_holds ltInt) pw1 pw2 (show b' ≤ d3.size by omega) H4.out.2.2.2.2 (show Sort.partition ltInt d3 a' b' pw = (mid, ap, d4) by rw [hmid, hap, hd4])
                    obtain ⟨m1, m2, hs4, hB1, hB2, hL, hRr⟩ := RP
                    have hs5 : d4.size = d.size := by rw [hs4]; exact hs3
                    have HPt : Hid (mid = (Sort.partition ltInt d3 a' b' pw).1 ∧ ap = (Sort.partition ltInt d3 a' b' pw).2.1 ∧ d4 = (Sort.partition ltInt d3 a' b' pw).2.2) := ⟨hmid, hap, hd4⟩
                    have H5 : Hid (Sort.Below ltInt a' mid d4 ∧ Sort.Below ltInt (mid + 1) b' d4 ∧
                        (∀ L, PermIn a' mid d4 L → SortedIn ltInt a' mid L → Sort.Below ltInt (mid + 1) b' L ∧ ∀ R, PermIn (mid + 1) b' L R → SortedIn ltInt (mid + 1) b' R → PermIn a' b' d3 R ∧ SortedIn ltInt a' b' R) ∧
                        (∀ L, PermIn (mid + 1) b' d4 L → SortedIn ltInt (mid + 1) b' L → Sort.Below ltInt a' mid L ∧ ∀ R, PermIn a' mid L R → SortedIn ltInt a' mid R → PermIn a' b' d3 R ∧ SortedIn ltInt a' b' R)) := ⟨hB1, hB2, hL, hRr⟩
                    clear hmid hap hd4 hB1 hB2 hL hRr hs4
                    go_upto_if 113 with (first
                      | (go_at_call 66
                         have q := part_any blk off cap a' b' pw d3 _ H4.out.2.2.1 (by omega) (by omega) (by omega) (by omega)
                         rw [← HPt.out.1, ← HPt.out.2.1, ← HPt.out.2.2, hs3] at q
                         refine q.mono ?_
                         rintro e' w5 ⟨rfl, hK5, hR5⟩))
                    have H6 : Hid (RK w w5 blk ∧ Row w5 blk off d4) := ⟨H4.out.2.1.trans hK5, hR5⟩
                    have hblk5 : blk < w5.heap.size := Nat.lt_of_lt_of_le hblk H6.out.1.size
                    clear hK5 hR5
                    by_cases hlr : (mid : Int) - a' < (b' : Int) - mid
                    · go_wp2_with (first
                        | (go_at_call 44
                           have q := IH.out (mid - a') (by omega) a' mid lim' d4 _ (Nat.le_refl _) H6.out.2 (by omega) (by omega) hblk5 (by omega) hlim1 H5.out.1
                           rw [hs5] at q
                           refine q.mono ?_
                           rintro e' w6 ⟨rfl, hK6, R6, hR6, hP6, hS6⟩))
                      go_roundg (b' - (mid + 1))
                      case measure => omega
                      case rel =>
                        have f := H5.out.2.2.1 R6 hP6 hS6
                        exact ⟨mid + 1, b', lim', _, ap, R6, by go_num, rfl, rfl, rfl, rfl, by omega, by omega, by omega, by omega, hlim1, by rw [hP6.1]; exact hs5, H6.out.1.trans hK6, hR6, f.1, fun R h1 h2 => HFin.out R (perm_trans H4.out.1 (f.2 R h1 h2).1) (f.2 R h1 h2).2⟩
                    · go_wp2_with (first
                        | (go_at_call 44
                           have q := IH.out (b' - (mid + 1)) (by omega) (mid + 1) b' lim' d4 _ (Nat.le_refl _) H6.out.2 (by omega) (by omega) hblk5 (by omega) hlim1 H5.out.2.1
                           rw [hs5] at q
                           refine q.mono ?_
                           rintro e' w6 ⟨rfl, hK6, R6, hR6, hP6, hS6⟩))
                      go_roundg (mid - a')
                      case measure => omega
                      case rel =>
                        have f := H5.out.2.2.2 R6 hP6 hS6
                        exact ⟨a', mid, lim', _, ap, R6, rfl, rfl, rfl, rfl, rfl, by omega, by omega, by omega, by omega, hlim1, by rw [hP6.1]; exact hs5, H6.out.1.trans hK6, hR6, f.1, fun R h1 h2 => HFin.out R (perm_trans H4.out.1 (f.2 R h1 h2).1) (f.2 R h1 h2).2⟩
                  · obtain ⟨mid, hmid⟩ : ∃ mid, mid = (Sort.partitionEqual ltInt d3 a' b' pw).1 := ⟨_, rfl⟩
                    obtain ⟨d4, hd4⟩ : ∃ d4, d4 = (Sort.partitionEqual ltInt d3 a' b' pw).2 := ⟨_, rfl⟩
                    have hx := H4.out.2.2.2.1 rfl
                    have RE := Sort.round_eq (lt := ltInt) Sort.swo_ltInt (Sort.partitionEqual_holds ltInt) hx.1 pw1 pw2 (show b' ≤ d3.size by omega) H4.out.2.2.2.2 hx.2 (show Sort.partitionEqual ltInt d3 a' b' pw = (mid, d4) by rw [hmid, hd4])
                    obtain ⟨m1, m2, hs4, hB1, hL⟩ := RE
                    have hs5 : d4.size = d.size := by rw [hs4]; exact hs3
                    have HPt : Hid (mid = (Sort.partitionEqual ltInt d3 a' b' pw).1 ∧ d4 = (Sort.partitionEqual ltInt d3 a' b' pw).2) := ⟨hmid, hd4⟩
                    have H5 : Hid (Sort.Below ltInt mid b' d4 ∧ ∀ R, PermIn mid b' d4 R → SortedIn ltInt mid b' R → PermIn a' b' d3 R ∧ SortedIn ltInt a' b' R) := ⟨hB1, hL⟩
                    clear hmid hd4 hB1 hL hs4 hx
                    go_wp2_with (first
                      | (go_at_call 65
                         have q := parteq_any blk off cap a' b' pw d3 _ H4.out.2.2.1 (by omega) (by omega) (by omega) (by omega)
                         rw [← HPt.out.1, ← HPt.out.2, hs3] at q
                         refine q.mono ?_
                         rintro e' w5 ⟨rfl, hK5, hR5⟩))
                    go_roundg (b' - mid)
                    case measure => omega
                    case rel =>
                      exact ⟨mid, b', lim', _, _, d4, rfl, rfl, rfl, rfl, rfl, by omega, by omega, by omega, by omega, hlim1, hs5, H4.out.2.1.trans hK5, hR5, H5.out.1, fun R h1 h2 => HFin.out R (perm_trans H4.out.1 (H5.out.2 R h1 h2).1) (H5.out.2 R h1 h2).2⟩
end Go.Proofs.YtkkkldglceiiiaaGreat
