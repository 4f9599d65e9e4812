/- filter.Parse. -/
import Derived.Test.YtpepbhmdfjpblaaGreatDoorFilAll
namespace Go.Proofs.YtpepbhmdfjpblaaGreatDoor
open Go.ChangeShapes Go.WideShapes Go.ChangeAt Go.RowKit
set_option linter.unusedVariables false

set_option maxRecDepth 100000 in
set_option maxHeartbeats 4000000 in
theorem filter_r (p : Nat) (s : ByteArray) (k : Nat) (w0 w : World) (E : Env w0) (hB : Below w0.heap.size w0 w) (hp : w0.heap.size ≤ p) (h : Rd w p s k) (hs : s.size ≤ 1000) :
    Calls Tryz.prog 93 #[.pointer (some ⟨p, 0, none⟩)] w fun e w' => FilAns e w w' (rFil ((dr s k).length + 1) [] (dr s k)) ∧ ∃ k', Rd w' p s k' ∧ dr s k' = (rFil ((dr s k).length + 1) [] (dr s k)).left ∧ Kp w w' p := by
  have HE : Hid (Env w0 ∧ Below w0.heap.size w0 w ∧ w0.heap.size ≤ p) := ⟨E, hB, hp⟩
  obtain ⟨i0, hi, hz0, hz1, hz2⟩ := info_parts Tryz.infoPd
  have hpw := h.lt
  clear E hB
  obtain ⟨RF, hRF⟩ : ∃ RF, RF = rFil ((dr s k).length + 1) [] (dr s k) := ⟨_, rfl⟩
  have HRF : Hid (RF = rFil ((dr s k).length + 1) [] (dr s k)) := hRF
  rw [← hRF]
  clear hRF
  have HS : Hid (FlAt w w p s k (.slice none 0 0) []) := ⟨h, Kp.refl _ _, World.ownsRow_nil _ _ _ _⟩
  have hk := h.le
  clear h
  go_enter Tryz.func93, Tryz.ntmps93
  go_wp2_with fail
  go_loopg [4] ((dr s k).length + 1) (fun kx s4 wr => ∃ (n j : Nat) (acc : List Pl) (a : Option Addr) (c : Nat), kx = n + 1 ∧ s4 = .slice a acc.length c ∧ j ≤ s.size ∧ acc.length ≤ j ∧ (dr s j).length < n + 1 ∧ Hid (FlAt w wr p s j (.slice a acc.length c) acc ∧ RF = rFil (n + 1) acc (dr s j)))
  case atStart => exact ⟨(dr s k).length, k, [], none, 0, rfl, rfl, hk, Nat.zero_le _, Nat.lt_succ_self _, (⟨HS.out, HRF.out⟩ : _ ∧ _)⟩
  case round =>
    obtain ⟨n, j, acc, a, c, hkg, rfl, hj, hacc, hkx, I⟩ := hrel
    have hBr := I.out.1.kp.below HE.out.2.1 hp HE.out.2.1.size
    have HBr : Hid (Below w0.heap.size w0 wr) := hBr
    clear hBr
    go_wp2_with fail
    refine (pred_any p s j w0 _ HE.out.1 HBr.out hp I.out.1.rd hs).mono ?_
    rintro e w1 ⟨rfl, b, hR, hb, hK⟩
    cases hres : rPred (dr s j) with
    | fail ee r =>
      rw [hres] at hb
      have HW : Hid (RF = .fail ee r) := by
        have e := I.out.2
        show RF = .fail ee r
        rw [e]; unfold rFil; rw [hres]
      have HR : Hid (Rd w1 p s b ∧ dr s b = r ∧ Kp w w1 p) := ⟨hR, hb, I.out.1.kp.trans hK⟩
      clear hb hR hK hres
      cases ee
      all_goals
        simp only [predV, ec, aggZ]
        go_wp2
        go_ret2
        rw [HW.out]
        refine ⟨rfl, b, ?_, HR.out.2.1, ?_⟩
        · exact HR.out.1.below ((Below.refl _ _).alloc (Nat.le_refl _) _)
        · exact HR.out.2.2.trans (Kp.ofBelow ((Below.refl _ _).alloc (Nat.le_refl _) _))
    | ok q r =>
      have hlen := rPred_len hres
      rw [hres] at hb
      have hb' : dr s b = r := hb
      have hbj : j < b := by
        have h1 := dr_len s j
        have h2 := dr_len s b
        rw [hb'] at h2
        omega
      have hbs := hR.le
      have hbn : (dr s b).length < n := by rw [hb']; omega
      have HF1 : Hid (FlAt w w1 p s b (.slice a acc.length c) acc) := I.out.1.kept hpw hR hK
      have HT : Hid (rPred (dr s j) = .ok q (dr s b)) := by rw [hb']; exact hres
      clear hb hb' hK hres hlen hR
      have hle1 : w.heap.size ≤ w1.heap.size := HF1.out.kp.size
      simp only [predV, Pl.agg]
      go_wp2_with (at_builtin; refine wpList_own_append5 _ rfl _ _ 103 103 rfl w.heap.size 148 i0 _ 56 Tryz.underlying103 hi hz0 hz1 hz2 rfl _ _ _ rfl ((HF1.out.row.alloc _).alloc _) _ 1 q.cells rfl (src_Pl (w1.alloc _) q (w1.heap.size + 1) (by simp)) ?c3 ?c4 ?c5 ?_)
      case c3 => unfold maxLen; omega
      case c4 => omega
      case c5 => simp; omega
      intro v3 w3 ha
      have HF3 : Hid (FlAt w w3 p s b v3 (acc ++ [q])) := FlAt.app (HF1.out.below hpw (((Below.refl _ _).alloc (Nat.le_refl _) _).alloc (by simp) _)) hpw ha
      obtain ⟨a3, c3', hv3⟩ := ha.shape
      subst hv3
      clear ha
      go_wp2_with fail
      refine (this_any p s ⟨#[97, 110, 100]⟩ b _ HF3.out.rd hs).mono ?_
      rintro e w4 ⟨rfl, b4, hR4, hb4, hK4⟩
      have ei : (⟨#[97, 110, 100]⟩ : ByteArray).toList = [97, 110, 100] := by simp [ByteArray.toList_eq]
      rw [ei] at hb4 ⊢
      clear ei
      have HF4 : Hid (FlAt w w4 p s b4 (.slice a3 (acc.length + 1) c3') (acc ++ [q])) := HF3.out.kept hpw hR4 hK4
      have hb4s := hR4.le
      clear hR4 hK4
      have hl4 := suf_len (rThis_suf [97, 110, 100] (dr s b))
      cases hres4 : rThis [97, 110, 100] (dr s b) with
      | fail ee r4 =>
        rw [hres4] at hb4
        cases ee
        · have HW : Hid (RF = .fail false r4) := by
            have e := I.out.2
            show RF = .fail false r4
            rw [e]; unfold rFil; rw [HT.out]; simp only [hres4]
          clear hres4 hl4
          simp only [errV, ec]
          go_wp2_with (go_at_call 12; refine (is_other 2 10 (by decide) _).mono ?_; rintro e w' ⟨rfl, hw'⟩; subst w')
          go_ret2
          rw [HW.out]
          exact ⟨rfl, b4, HF4.out.rd, hb4, HF4.out.kp⟩
        · have HW : Hid (RF = .ok (acc ++ [q]) r4) := by
            have e := I.out.2
            show RF = .ok (acc ++ [q]) r4
            rw [e]; unfold rFil; rw [HT.out]; simp only [hres4]
          clear hres4 hl4
          simp only [errV, ec]
          go_wp2_with (go_at_call 12; refine (is_code 10 _).mono ?_; rintro e w' ⟨rfl, hw'⟩; subst w')
          go_ret2
          rw [HW.out]
          refine ⟨⟨_, rfl, ?_⟩, b4, HF4.out.rd, hb4, HF4.out.kp⟩
          simpa using HF4.out.row
      | ok u r4 =>
        rw [hres4] at hb4 hl4
        have hb4' : dr s b4 = r4 := hb4
        have hl4' : (dr s b4).length ≤ (dr s b).length := by rw [hb4']; exact hl4
        have hbb : b ≤ b4 := by
          have h1 := dr_len s b
          have h2 := dr_len s b4
          omega
        have HW : Hid (RF = rFil n (acc ++ [q]) (dr s b4)) := by
          have e := I.out.2
          show RF = rFil n (acc ++ [q]) (dr s b4)
          rw [e]
          conv => lhs; unfold rFil
          rw [HT.out]; simp only [hres4]; rw [hb4']
        clear hres4 hl4 hb4 hb4'
        simp only [errV]
        go_wp2_with (go_at_call 12; refine (is_none 10 _).mono ?_; rintro e w' ⟨rfl, hw'⟩; subst w')
        go_roundg n
        case measure => omega
        case rel => exact ⟨n - 1, b4, acc ++ [q], a3, c3', by omega, by simp, hb4s, by simp; omega, by omega, (⟨by simpa using HF4.out, by rw [show n - 1 + 1 = n by omega]; exact HW.out⟩ : _ ∧ _)⟩
end Go.Proofs.YtpepbhmdfjpblaaGreatDoor
