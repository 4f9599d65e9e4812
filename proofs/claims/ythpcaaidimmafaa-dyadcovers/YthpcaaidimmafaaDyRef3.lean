/- wigwagref07.Chain, Cover. -/
import Derived.Test.YthpcaaidimmafaaDyRef2
namespace Go.Proofs.Ythpcaaidimmafaa
open Go.ChangeShapes Go.WideShapes Go.ChangeAt Go.RowKit
set_option linter.unusedVariables false

/-- What the document's chain has when the inner loop stands at j. -/
def rch (c n l j : Nat) : List Iv := (chain c n).take l ++ if c / 2 ^ (n - l) < j then [⟨(l : Nat), ((c / 2 ^ (n - l) : Nat) : Int)⟩] else []
theorem rch_zero (c n l : Nat) : rch c n l 0 = (chain c n).take l := by simp [rch]
theorem rch_no (c n l j : Nat) (h : c / 2 ^ (n - l) ≠ j) : rch c n l (j + 1) = rch c n l j := by
  unfold rch
  by_cases h1 : c / 2 ^ (n - l) < j
  · rw [if_pos (by omega), if_pos h1]
  · rw [if_neg (by omega), if_neg h1]
theorem rch_yes (c n l j : Nat) (h : c / 2 ^ (n - l) = j) : rch c n l (j + 1) = rch c n l j ++ [⟨(l : Nat), (j : Nat)⟩] := by
  unfold rch
  rw [if_pos (by omega), if_neg (by omega), h]; simp
theorem rch_end (c n l : Nat) (hl : l ≤ n) (hc : c < 2 ^ n) : rch c n l (2 ^ l) = (chain c n).take (l + 1) := by
  unfold rch
  rw [if_pos (chain_fit c c n l hl hc), chain_snoc c n l hl]
theorem rch_len (c n l j : Nat) : (rch c n l j).length ≤ l + 1 := by
  unfold rch
  rw [List.length_append, List.length_take]
  split <;> simp <;> omega

set_option maxHeartbeats 1000000 in
theorem rchain_no (c L : Int) (w : World) (h : ¬ (Iv.mk L c).good L) :
    Calls Try.prog 18 #[.int .i64 c, .int .i64 L] w fun e w' => ∃ v, e = .returned v ∧ IvRow 27 w w' v [] := by
  have hc := fun W => rgood_any ⟨L, c⟩ L W
  rw [not_good h] at hc
  have HC : Hid _ := hc
  have HM : Hid _ := IvRow.made 27 w
  clear hc h
  go_enter Try.func18, Try.ntmps18
  go_wp2_with fail
  refine Calls.mono (HC.out _) ?_
  rintro e w' ⟨rfl, hb⟩
  have HM2 : Hid _ := HM.out.carry hb
  clear hb
  go_wp2
  go_ret
  exact ⟨_, rfl, HM2.out⟩

set_option maxRecDepth 100000 in
set_option maxHeartbeats 2000000 in
theorem rchain_yes (c n : Nat) (w : World) (hn : n ≤ 8) (hcn : c < 2 ^ n) :
    Calls Try.prog 18 #[.int .i64 c, .int .i64 n] w fun e w' => ∃ v, e = .returned v ∧ IvRow 27 w w' v (chain c n) := by
  obtain ⟨i0, hi, hz0, hz1, hz2⟩ := dinfo Try.infoRIv
  have hc := fun W => rgood_any ⟨n, c⟩ n W
  rw [show (Iv.mk n c).goodB n = true from decide_eq_true (Iv.good_of (Nat.le_refl _) hn hcn)] at hc
  have HC : Hid _ := hc
  have HM : Hid _ := IvRow.made 27 w
  have HCN : Hid (c < 2 ^ n) := hcn
  have h256 := pow_le_256 hn
  have hc256 : c ≤ 65536 := by omega
  clear hc hcn h256
  go_enter Try.func18, Try.ntmps18
  go_wp2_with fail
  refine Calls.mono (HC.out _) ?_
  rintro e w1 ⟨rfl, hb⟩
  have HM2 : Hid _ := HM.out.carry hb
  clear hb
  go_wp2
  go_loopg [5, 6] (n + 1) (fun kx s5 s6 wr => ∃ l : Nat, s6 = .int .i64 l ∧ l ≤ n + 1 ∧ kx = n + 1 - l ∧ (∃ a cp m, s5 = .slice a m cp) ∧ Hid (IvRow 27 w wr s5 ((chain c n).take l)))
  case atStart => exact ⟨0, rfl, Nat.zero_le _, rfl, ⟨_, _, _, rfl⟩, HM2⟩
  case round =>
    obtain ⟨l, rfl, hl, rfl, ⟨a, cp, m, rfl⟩, R⟩ := hrel
    by_cases hlt : l ≤ n
    · have HP : Hid _ := fun W => power_any l W (by omega)
      have HEND : Hid (rch c n l (2 ^ l) = (chain c n).take (l + 1)) := rch_end c n l hlt HCN.out
      have hp2 := pow_le_256 (show l ≤ 8 by omega)
      generalize 2 ^ l = P at HP HEND hp2
      rw [← rch_zero] at R
      go_wp2
      rename World => wq
      go_loopg [5, 7] P (fun kx s5 s7 wr => ∃ j : Nat, s7 = .int .i64 j ∧ j ≤ P ∧ kx = P - j ∧ (∃ a cp m, s5 = .slice a m cp) ∧ Hid (IvRow 27 w wr s5 (rch c n l j)))
      case atStart => exact ⟨0, rfl, Nat.zero_le _, rfl, ⟨_, _, _, rfl⟩, R⟩
      case round =>
        obtain ⟨j, rfl, hj, rfl, ⟨a, cp, m, rfl⟩, R2⟩ := hrel
        by_cases hjl : j < P
        · have HH : Hid _ := fun W => rhas_any l j c n W hlt hn hc256
          by_cases hq : c / 2 ^ (n - l) = j
          · have HY := rch_yes c n l j hq
            rw [show decide (c / 2 ^ (n - l) = j) = true from decide_eq_true hq] at HH
            have HY : Hid _ := HY
            have hlen := rch_len c n l j
            generalize rch c n l j = xs at *
            obtain rfl : m = xs.length := by
              obtain ⟨a', c', e, _⟩ := R2.out.isIn.shape
              simp at e; exact e.2.1
            clear hq
            go_wp2_with fail
            refine Calls.mono (HP.out _) ?_
            rintro e w' ⟨rfl, hw'⟩
            subst w'
            go_wp2_with fail
            refine Calls.mono (HH.out _) ?_
            rintro e w3 ⟨rfl, hb3⟩
            have R3 : Hid (IvRow 27 w w3 (.slice a xs.length cp) xs) := R2.out.carry hb3
            clear hb3
            have hle3 := R3.out.le
            go_wp2_with (at_builtin; refine wpList_own_append2 _ rfl _ _ 33 33 rfl w.heap.size 27 i0 _ 16 Try.underlying33 hi hz0 hz1 hz2 rfl _ xs.length (xs.flatMap Iv.cells) rfl (own_carryI R3.out.row (dbel1 _ _)) _ 1 (Iv.mk l j).cells rfl (src_RIv w3 ⟨l, j⟩ _ rfl) ?c3 ?c4 ?c5 ?_)
            case c3 => unfold maxLen; omega
            case c4 => omega
            case c5 => simp; omega
            intro v' W4 ha
            obtain ⟨a', cp', hv⟩ := ha.shape
            subst hv
            have HST : Hid (IvRow 27 w W4 (.slice a' (xs.length + 1) cp') (rch c n l (j + 1))) := by
              show IvRow _ _ _ _ _
              rw [HY.out]
              exact R3.out.step (dbel1 _ _) ha
            clear ha
            go_wp2
            go_roundg (P - (j + 1))
            case measure => omega
            case rel => exact ⟨j + 1, by go_num, by omega, rfl, ⟨_, _, _, rfl⟩, HST⟩
          · have HY := rch_no c n l j hq
            rw [show decide (c / 2 ^ (n - l) = j) = false from decide_eq_false hq] at HH
            rw [← HY] at R2
            clear hq HY
            go_wp2_with fail
            refine Calls.mono (HP.out _) ?_
            rintro e w' ⟨rfl, hw'⟩
            subst w'
            go_wp2_with fail
            refine Calls.mono (HH.out _) ?_
            rintro e w3 ⟨rfl, hb3⟩
            have R3 : Hid _ := R2.out.carry hb3
            clear hb3
            go_wp2
            go_roundg (P - (j + 1))
            case measure => omega
            case rel => exact ⟨j + 1, by go_num, by omega, rfl, ⟨_, _, _, rfl⟩, R3⟩
        · obtain rfl : P = j := by omega
          rw [HEND.out] at R2
          go_wp2_with fail
          refine Calls.mono (HP.out _) ?_
          rintro e w' ⟨rfl, hw'⟩
          subst w'
          go_wp2
          go_roundg (n + 1 - (l + 1))
          case measure => omega
          case rel => exact ⟨l + 1, by go_num, by omega, rfl, ⟨_, _, _, rfl⟩, R2⟩
    · obtain rfl : l = n + 1 := by omega
      have HE : Hid ((chain c n).take (n + 1) = chain c n) := (List.take_of_length_le (by rw [chain_len]; omega) : (chain c n).take (n + 1) = chain c n)
      go_wp2
      go_ret
      exact ⟨_, rfl, by rw [← HE.out]; exact R.out⟩
end Go.Proofs.Ythpcaaidimmafaa
