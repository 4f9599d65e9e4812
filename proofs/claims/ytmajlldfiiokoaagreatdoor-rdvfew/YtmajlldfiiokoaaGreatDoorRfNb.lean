/- wigwagref10.behind. -/
import Derived.Test.YtmajlldfiiokoaaGreatDoorRfN
namespace Go.Proofs.YtmajlldfiiokoaaGreatDoor
open Go.ChangeShapes Go.WideShapes Go.ChangeAt Go.RowKit Go.Deep
set_option linter.unusedVariables false

set_option maxRecDepth 100000 in
set_option maxHeartbeats 4000000 in
theorem rbehind_r (a : Option Addr) (cap : Nat) (l : List Int) (x : Int) (w : World) (h : IdIn w a 4 l) (hx : 0 ≤ x ∧ x ≤ 18446744073709551615) :
    Calls Tryz.prog 90 #[.slice a 4 cap, .int .u64 x] w fun e w' => e = .returned (.int .i64 (bhF l x 4)) ∧ Below w.heap.size w w' := by
  have HI : Hid (IdIn w a 4 l ∧ (0 ≤ x ∧ x ≤ 18446744073709551615)) := ⟨h, hx⟩
  clear h hx
  go_enter Tryz.func90, Tryz.ntmps90
  go_wp2
  go_loopg [10, 5] 4 (fun kx s bs wr => ∃ j : Nat, s = .int .i64 j ∧ bs = .int .i64 (bhF l x j) ∧ j ≤ 4 ∧ kx = 4 - j ∧ Hid (Below w.heap.size w wr))
  case atStart => exact ⟨0, rfl, rfl, Nat.zero_le _, rfl, (Below.refl _ _ : Below w.heap.size w w)⟩
  case round =>
    obtain ⟨j, rfl, rfl, hj, rfl, HB⟩ := hrel
    by_cases hlt : j < 4
    · have hj0 : (0 : Int) ≤ (j : Int) := Int.natCast_nonneg _
      have hj1 : (j : Int) < 4 := by omega
      obtain ⟨b, o, ha, hb, hy, hc⟩ := (HI.out.1.below (Nat.le_refl _) HB.out).one (v := Value.int .u64) (fun _ => rfl) (i := j) hlt
      subst ha
      have hsp := bhF_spec l x j
      have hst : bhF l x (j + 1) = if l.getD j 0 ≠ x ∧ (bhF l x j < 0 ∨ dist x (l.getD j 0) < dist x (l.getD (bhF l x j).toNat 0)) then (j : Int) else bhF l x j := rfl
      have HST : Hid _ := hst
      clear hst
      obtain ⟨y, hyy⟩ : ∃ y, y = l.getD j 0 := ⟨_, rfl⟩
      have HY : Hid (y = l.getD j 0 ∧ (0 ≤ y ∧ y ≤ 18446744073709551615)) := ⟨hyy, by rw [hyy]; exact hy⟩
      rw [← hyy] at hc
      clear hy
      by_cases he : y = x
      · have ee : (y != x) = false := by simp [he]
        have HN : Hid (bhF l x (j + 1) = bhF l x j) := by
          show bhF l x (j + 1) = bhF l x j
          rw [HST.out, if_neg (fun q => q.1 (by rw [← hyy]; exact he))]
        clear hsp HST hyy he
        generalize bhF l x j = bj at HN ⊢
        go_wp2_with (go_quiet (fail))
        go_roundg (4 - (j + 1))
        case measure => omega
        case rel => exact ⟨j + 1, by go_num, by rw [HN.out], by omega, rfl, below_drew HB.out _⟩
      · have ee : (y != x) = true := by simpa using he
        rcases hsp with ⟨h1, _⟩ | ⟨h1, h2, h3, _⟩
        · have HN : Hid (bhF l x (j + 1) = j) := by
            show bhF l x (j + 1) = (j : Int)
            rw [HST.out, if_pos ⟨by rw [← hyy]; exact he, .inl (by omega)⟩]
          rw [h1]
          clear HST hyy he h1
          have e2 : ((-1 : Int) < 0) := by omega
          go_wp2_with (go_quiet (fail))
          go_roundg (4 - (j + 1))
          case measure => omega
          case rel => exact ⟨j + 1, by go_num, by rw [HN.out], by omega, rfl, below_drew HB.out _⟩
        · obtain ⟨q, hq⟩ : ∃ q : Nat, bhF l x j = q := ⟨(bhF l x j).toNat, by omega⟩
          have hqj : q < j := by omega
          have hqI : (0 : Int) ≤ (q : Int) ∧ (q : Int) < 4 := by omega
          have hqn : ¬ (q : Int) < 0 := by omega
          have hqd : decide ((q : Int) < 0) = false := by simp
          obtain ⟨b', o', ha', hb', hz, hc'⟩ := (HI.out.1.below (Nat.le_refl _) HB.out).one (v := Value.int .u64) (fun _ => rfl) (i := q) (by omega)
          simp only [Option.some.injEq, Addr.mk.injEq, and_true] at ha'
          obtain ⟨rfl, rfl⟩ := ha'
          obtain ⟨z, hzz⟩ : ∃ z, z = l.getD q 0 := ⟨_, rfl⟩
          have HZ : Hid (0 ≤ z ∧ z ≤ 18446744073709551615) := by rw [hzz]; exact hz
          rw [← hzz] at hc'
          rw [hq, Int.toNat_natCast, ← hzz, ← hyy] at HST
          rw [hq]
          clear hz h1 h2 h3 hq hyy hzz
          by_cases hd : dist x y < dist x z
          · have HN : Hid (bhF l x (j + 1) = j) := by
              show bhF l x (j + 1) = (j : Int)
              rw [HST.out, if_pos ⟨he, .inr hd⟩]
            clear HST he
            go_wp2_with (go_quiet ((go_at_call 121; first | exact Calls.quiet_of_same (refdist_any _ _ _ HI.out.2 HY.out.2) | exact Calls.quiet_of_same (refdist_any _ _ _ HI.out.2 HZ.out))))
            go_roundg (4 - (j + 1))
            case measure => omega
            case rel => exact ⟨j + 1, by go_num, by rw [HN.out], by omega, rfl, below_drew HB.out _⟩
          · have HN : Hid (bhF l x (j + 1) = q) := by
              show bhF l x (j + 1) = (q : Int)
              rw [HST.out, if_neg (fun hh => hh.2.elim (fun h => hqn h) (fun h => hd h))]
            clear HST he
            go_wp2_with (go_quiet ((go_at_call 121; first | exact Calls.quiet_of_same (refdist_any _ _ _ HI.out.2 HY.out.2) | exact Calls.quiet_of_same (refdist_any _ _ _ HI.out.2 HZ.out))))
            go_roundg (4 - (j + 1))
            case measure => omega
            case rel => exact ⟨j + 1, by go_num, by rw [HN.out], by omega, rfl, below_drew HB.out _⟩
    · obtain rfl : j = 4 := by omega
      go_wp2
      go_ret
      exact ⟨rfl, HB.out⟩
end Go.Proofs.YtmajlldfiiokoaaGreatDoor
