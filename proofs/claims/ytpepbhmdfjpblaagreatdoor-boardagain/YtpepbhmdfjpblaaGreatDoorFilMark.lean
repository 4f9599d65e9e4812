/- The reader of package filter: thisWord, mark. -/
import Derived.Test.YtpepbhmdfjpblaaGreatDoorFilWord
namespace Go.Proofs.YtpepbhmdfjpblaaGreatDoor
open Go.ChangeShapes Go.WideShapes Go.ChangeAt Go.RowKit
set_option linter.unusedVariables false

theorem dr_len (s : ByteArray) (k : Nat) : (dr s k).length = s.size - k := by simp [dr]
theorem dr_pos {s : ByteArray} {k : Nat} {l : List UInt8} (hk : k ≤ s.size) (h : dr s k = l) : k = s.size - l.length := by rw [← h, dr_len]; omega
theorem dr_suf {s : ByteArray} {k : Nat} {l : List UInt8} (h : l <:+ dr s k) : dr s (s.size - l.length) = l := by
  have h1 : l <:+ s.data.toList := h.trans (List.drop_suffix _ _)
  have := suffix_left h1
  simp only [dr]
  rw [show s.size - l.length = s.data.toList.length - l.length by simp]
  exact this.symm
theorem ba_list (l : List UInt8) : (ba l).data.toList = l := by simp [ba]
theorem ba_tl (l : List UInt8) : (ba l).toList = l := by simp [ba, ByteArray.toList_eq]
theorem ba_size (l : List UInt8) : (ba l).size = l.length := by simp [ba, ByteArray.size]

set_option maxHeartbeats 1000000 in
theorem this_any (p : Nat) (s want : ByteArray) (k : Nat) (w : World) (h : Rd w p s k) (hs : s.size ≤ 1000) :
    Calls Tryz.prog 109 #[.pointer (some ⟨p, 0, none⟩), .string want] w fun e w' => e = .returned (errV (rThis want.toList (dr s k))) ∧ ∃ k', Rd w' p s k' ∧ dr s k' = (rThis want.toList (dr s k)).left ∧ Kp w w' p := by
  go_enter Tryz.func109, Tryz.ntmps109
  go_wp2_with fail
  refine (word_any p s k _ h hs).mono ?_
  rintro e w1 ⟨rfl, b, hR, hb, hK⟩
  have hsuf := rThis_suf want.toList (dr s k)
  cases hres : rWord (dr s k) with
  | fail ee r =>
    rw [hres] at hb
    have HW : Hid (rThis want.toList (dr s k) = .fail ee r) := by
      show rThis want.toList (dr s k) = .fail ee r
      unfold rThis; rw [hres]
    have HR : Hid (Rd w1 p s b ∧ dr s b = r ∧ Kp w w1 p) := ⟨hR, hb, hK⟩
    clear hb hR hK hres hsuf
    cases ee
    all_goals
      simp only [wordV, ec]
      go_wp2
      go_ret
      rw [HW.out]
      exact ⟨rfl, b, HR.out.1, HR.out.2.1, HR.out.2.2⟩
  | ok v r =>
    rw [hres] at hb
    have hb' : dr s b = r := hb
    by_cases hv : v = want.toList
    · have HW : Hid (rThis want.toList (dr s k) = .ok () r) := by
        show rThis want.toList (dr s k) = .ok () r
        unfold rThis; rw [hres]; simp [hv]
      have HR : Hid (Rd w1 p s b ∧ dr s b = r ∧ Kp w w1 p) := ⟨hR, hb', hK⟩
      have e1 : (ba v).toList = want.toList := by rw [ba_tl]; exact hv
      clear hb hb' hR hK hres hsuf hv
      simp only [wordV]
      generalize ba v = V at e1
      go_wp2
      go_ret
      rw [HW.out]
      exact ⟨rfl, b, HR.out.1, HR.out.2.1, HR.out.2.2⟩
    · have hW : rThis want.toList (dr s k) = .fail false (v ++ r) := by
        unfold rThis; rw [hres]; simp [hv]
      rw [hW] at hsuf
      have hp := dr_suf hsuf
      have hbp := dr_pos hR.le hb'
      have hvl : (v ++ r).length ≤ s.size := by
        have := hsuf.length_le
        rw [dr_len] at this
        simp only [Ps.left] at this
        omega
      simp only [Ps.left] at hp
      have hlen : b - v.length = s.size - (v ++ r).length := by rw [hbp]; simp; omega
      have hvb : v.length ≤ b := by rw [hbp]; simp at hvl; omega
      have HW : Hid (rThis want.toList (dr s k) = .fail false (v ++ r)) := hW
      have HP : Hid (dr s (b - v.length) = v ++ r) := by rw [hlen]; exact hp
      have e1 : ¬ (ba v).toList = want.toList := by rw [ba_tl]; exact hv
      have e2 : ((ba v).toList == want.toList) = false := by simpa using e1
      have e3 : (ba v).size = v.length := ba_size v
      have x1 := hR.c1
      have xf := hR.fz 1
      have xl := hR.lt
      have hb1 := hR.le
      have HR : Hid (Rd w1 p s b ∧ Kp w w1 p) := ⟨hR, hK⟩
      clear hb hb' hR hK hres hsuf hv hW hp hbp hlen hvl
      simp only [wordV]
      generalize ba v = V at e1 e2 e3
      have hi : (b : Int) - (v.length : Int) = ((b - v.length : Nat) : Int) := by omega
      go_wp2
      go_ret
      rw [HW.out]
      refine ⟨rfl, b - v.length, ?_, HP.out, ?_⟩
      · have := HR.out.1.set (b - v.length) (by omega)
        first | exact this | (rw [← hi] at this; exact this) | simpa [e3] using this
      · exact HR.out.2.set _
end Go.Proofs.YtpepbhmdfjpblaaGreatDoor
