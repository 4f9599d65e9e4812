/- The reader of package filter: word, thisWord, mark. -/
import Derived.Test.YtpepbhmdfjpblaaGreatDoorFilRd
namespace Go.Proofs.YtpepbhmdfjpblaaGreatDoor
open Go.ChangeShapes Go.WideShapes Go.ChangeAt Go.RowKit
set_option linter.unusedVariables false

def ba (l : List UInt8) : ByteArray := ⟨l.toArray⟩
theorem ext_ba (s : ByteArray) (k j : Nat) (h1 : k ≤ j) (h2 : j ≤ s.size) : s.extract k j = ba ((dr s k).take (j - k)) := by
  apply ByteArray.ext
  apply Array.ext'
  simp [ba, dr, List.take_drop]
theorem rBegin_ok {l r : List UInt8} (h : rBegin l = .ok () r) : l.dropWhile isBlank = r ∧ r ≠ [] := by
  unfold rBegin at h
  split at h
  · cases h
  · rename_i e; cases h; exact ⟨e, by simp⟩
theorem rBegin_fail {l r : List UInt8} {b : Bool} (h : rBegin l = .fail b r) : l.dropWhile isBlank = [] ∧ b = true ∧ r = [] := by
  unfold rBegin at h
  split at h
  · rename_i e; cases h; exact ⟨e, rfl, rfl⟩
  · cases h
def wordV : Ps (List UInt8) → Value
  | .ok v _ => .tuple #[.string (ba v), .nilIface]
  | .fail e _ => .tuple #[.string ⟨#[]⟩, ec e]
theorem lt_of_dr {s : ByteArray} {k : Nat} (h : dr s k ≠ []) : k < s.size := by
  rcases Nat.lt_or_ge k s.size with q | q
  · exact q
  · exact absurd (dr_end s k q) h
theorem word_go (s : ByteArray) (b j : Nat) (hb : b ≤ j) (h : j < s.size) (hc : alnum s[j] = true) (I1 : (dr s b).takeWhile alnum = (dr s b).take (j - b) ++ (dr s j).takeWhile alnum) (I2 : (dr s b).dropWhile alnum = (dr s j).dropWhile alnum) :
    (dr s b).takeWhile alnum = (dr s b).take (j + 1 - b) ++ (dr s (j + 1)).takeWhile alnum ∧ (dr s b).dropWhile alnum = (dr s (j + 1)).dropWhile alnum := by
  rw [dr_cons s j h] at I1 I2
  rw [List.takeWhile_cons, if_pos hc] at I1
  rw [List.dropWhile_cons, if_pos hc] at I2
  refine ⟨?_, I2⟩
  rw [I1]
  have hl : j - b < (dr s b).length := by simp [dr]; omega
  have e : (dr s b).take (j + 1 - b) = (dr s b).take (j - b) ++ [s[j]] := by
    rw [show j + 1 - b = (j - b) + 1 by omega, List.take_succ_eq_append_getElem hl]
    congr 2
    simp [dr]
    congr 1; omega
  rw [e, List.append_assoc]; rfl
theorem word_stop (s : ByteArray) (b j : Nat) (hc : (dr s j).takeWhile alnum = []) (h0 : (dr s j).dropWhile alnum = dr s j) (I1 : (dr s b).takeWhile alnum = (dr s b).take (j - b) ++ (dr s j).takeWhile alnum) (I2 : (dr s b).dropWhile alnum = (dr s j).dropWhile alnum) :
    (dr s b).takeWhile alnum = (dr s b).take (j - b) ∧ (dr s b).dropWhile alnum = dr s j := by
  rw [hc, List.append_nil] at I1
  rw [h0] at I2
  exact ⟨I1, I2⟩

set_option maxHeartbeats 2000000 in
theorem word_any (p : Nat) (s : ByteArray) (k : Nat) (w : World) (h : Rd w p s k) (hs : s.size ≤ 1000) :
    Calls Tryz.prog 111 #[.pointer (some ⟨p, 0, none⟩)] w fun e w' => e = .returned (wordV (rWord (dr s k))) ∧ ∃ k', Rd w' p s k' ∧ dr s k' = (rWord (dr s k)).left ∧ Kp w w' p := by
  go_enter Tryz.func111, Tryz.ntmps111
  go_wp2_with fail
  refine (begin_any p s k _ h hs).mono ?_
  rintro e w1 ⟨rfl, b, hR, hb, hK⟩
  cases hres : rBegin (dr s k) with
  | fail ee r =>
    obtain ⟨h1, rfl, rfl⟩ := rBegin_fail hres
    rw [hres] at hb
    have HW : Hid (rWord (dr s k) = .fail true []) := by
      show rWord (dr s k) = .fail true []
      unfold rWord; rw [h1]
    have HR : Hid (Rd w1 p s b ∧ dr s b = [] ∧ Kp w w1 p) := ⟨hR, hb, hK⟩
    clear h1 hb hR hK hres
    simp only [errV, ec]
    go_wp2
    go_ret2
    rw [HW.out]
    exact ⟨rfl, b, HR.out.1, HR.out.2.1, HR.out.2.2⟩
  | ok u r =>
    obtain ⟨h1, h2⟩ := rBegin_ok hres
    rw [hres] at hb
    have hb' : dr s b = r := hb
    rw [← hb'] at h1 h2
    have hlt := lt_of_dr h2
    have HD : Hid ((dr s k).dropWhile isBlank = dr s b) := h1
    have HR : Hid (Rd w1 p s b ∧ Kp w w1 p) := ⟨hR, hK⟩
    have x0 := hR.c0
    have x1 := hR.c1
    have xl := hR.lt
    clear h1 h2 hb hb' hR hK hres
    simp only [errV]
    cases hl : isLetter s[b] with
    | false =>
      have HW : Hid (rWord (dr s k) = .fail false (dr s b)) := by
        show rWord (dr s k) = .fail false (dr s b)
        unfold rWord; rw [HD.out, dr_cons s b hlt]; simp [hl]
      have HL : Hid (isLetter s[b] = false) := hl
      clear hl
      go_wp2_with fail
      go_quiet ((go_at_call 115; exact Calls.quiet_of_same (letter_is _ _ HL.out)))
      go_wp2
      go_ret2
      rw [HW.out]
      exact ⟨rfl, b, HR.out.1.drewN _, rfl, HR.out.2.drewN _⟩
    | true =>
      have HW : Hid (rWord (dr s k) = .ok ((dr s b).takeWhile alnum) ((dr s b).dropWhile alnum)) := by
        show rWord (dr s k) = .ok ((dr s b).takeWhile alnum) ((dr s b).dropWhile alnum)
        unfold rWord; rw [HD.out, dr_cons s b hlt]; simp [hl]
      have HL : Hid (isLetter s[b] = true) := hl
      clear hl
      go_wp2_with fail
      go_quiet ((go_at_call 115; exact Calls.quiet_of_same (letter_is _ _ HL.out)))
      go_wp2_with fail
      go_loopg [] (s.size - b) (fun kx wr => ∃ j : Nat, b ≤ j ∧ j ≤ s.size ∧ kx = s.size - j ∧ Hid (Rd wr p s j ∧ Kp w wr p ∧ (dr s b).takeWhile alnum = (dr s b).take (j - b) ++ (dr s j).takeWhile alnum ∧ (dr s b).dropWhile alnum = (dr s j).dropWhile alnum))
      case atStart => exact ⟨b, Nat.le_refl _, by omega, rfl, (⟨HR.out.1.drewN _, HR.out.2.drewN _, by simp, rfl⟩ : _ ∧ _ ∧ _ ∧ _)⟩
      case round =>
        obtain ⟨j, hbj, hj, hkx, I⟩ := hrel
        have y0 := I.out.1.c0
        have y1 := I.out.1.c1
        have yf := I.out.1.fz 1
        have yl := I.out.1.lt
        by_cases hlj : j < s.size
        · have go : ∀ (_ : alnum s[j] = true), Hid (∀ n, Rd ((wr.drewN n).setCell ⟨p, 1, none⟩ (.int .i64 ((j + 1 : Nat) : Int))) p s (j + 1) ∧ Kp w ((wr.drewN n).setCell ⟨p, 1, none⟩ (.int .i64 ((j + 1 : Nat) : Int))) p ∧ (dr s b).takeWhile alnum = (dr s b).take (j + 1 - b) ++ (dr s (j + 1)).takeWhile alnum ∧ (dr s b).dropWhile alnum = (dr s (j + 1)).dropWhile alnum) := fun ha n =>
            ⟨(I.out.1.drewN n).set (j + 1) (by omega), (I.out.2.1.drewN n).set _, word_go s b j hbj hlj ha I.out.2.2.1 I.out.2.2.2⟩
          have HGo : Hid _ := go
          clear go
          cases hl : isLetter s[j] with
          | true =>
            have HL2 : Hid (isLetter s[j] = true) := hl
            have I2 := HGo.out (by simp [alnum, hl])
            clear hl
            go_wp2_with fail
            go_quiet ((go_at_call 115; exact Calls.quiet_of_same (letter_is _ _ HL2.out)))
            go_wp2
            go_roundg (s.size - (j + 1))
            case measure => omega
            case rel => exact ⟨j + 1, by omega, by omega, rfl, (by simpa using I2.out _ : _ ∧ _ ∧ _ ∧ _)⟩
          | false =>
            cases hd : isDigit s[j] with
            | true =>
              have HL2 : Hid (isLetter s[j] = false) := hl
              have HL3 : Hid (isDigit s[j] = true) := hd
              have I2 := HGo.out (by simp [alnum, hd])
              clear hl hd
              go_wp2_with fail
              go_quiet (first
                | (go_at_call 115; exact Calls.quiet_of_same (letter_is _ _ HL2.out))
                | (go_at_call 116; exact Calls.quiet_of_same (digit_is _ _ HL3.out)))
              go_wp2
              go_roundg (s.size - (j + 1))
              case measure => omega
              case rel => exact ⟨j + 1, by omega, by omega, rfl, (by simpa using I2.out _ : _ ∧ _ ∧ _ ∧ _)⟩
            | false =>
              have HL2 : Hid (isLetter s[j] = false) := hl
              have HL3 : Hid (isDigit s[j] = false) := hd
              have HE : Hid ((dr s b).takeWhile alnum = (dr s b).take (j - b) ∧ (dr s b).dropWhile alnum = dr s j) := by
                have ha : alnum s[j] = false := by simp [alnum, hl, hd]
                refine word_stop s b j ?_ ?_ I.out.2.2.1 I.out.2.2.2
                · rw [dr_cons s j hlj, List.takeWhile_cons, if_neg (by simp [ha])]
                · rw [dr_cons s j hlj, List.dropWhile_cons, if_neg (by simp [ha])]
              clear hl hd
              go_wp2_with fail
              go_quiet (first
                | (go_at_call 115; exact Calls.quiet_of_same (letter_is _ _ HL2.out))
                | (go_at_call 116; exact Calls.quiet_of_same (digit_is _ _ HL3.out)))
              go_wp2_with fail
              go_quiet (fail)
              go_wp2
              go_ret2
              rw [HW.out]
              refine ⟨?_, j, (I.out.1.drewN _).drewN _, HE.out.2.symm, (I.out.2.1.drewN _).drewN _⟩
              simp only [wordV, HE.out.1]
              rw [← ext_ba s b j hbj hj]
              first | rfl | simp
        · obtain rfl : j = s.size := by omega
          have HE : Hid ((dr s b).takeWhile alnum = (dr s b).take (s.size - b) ∧ (dr s b).dropWhile alnum = dr s s.size) := by
            refine word_stop s b s.size ?_ ?_ I.out.2.2.1 I.out.2.2.2
            · rw [dr_end s _ (Nat.le_refl _)]; rfl
            · rw [dr_end s _ (Nat.le_refl _)]; rfl
          go_wp2_with fail
          go_quiet (fail)
          go_wp2_with fail
          go_quiet (fail)
          go_wp2
          go_ret2
          rw [HW.out]
          refine ⟨?_, s.size, (I.out.1.drewN _).drewN _, HE.out.2.symm, (I.out.2.1.drewN _).drewN _⟩
          simp only [wordV, HE.out.1]
          rw [← ext_ba s b s.size hbj hj]
          first | rfl | simp
end Go.Proofs.YtpepbhmdfjpblaaGreatDoor
