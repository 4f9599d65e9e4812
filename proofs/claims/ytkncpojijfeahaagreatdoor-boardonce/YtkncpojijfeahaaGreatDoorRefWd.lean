/- The document's reader (wigwagref06): word, mark. -/
import Derived.Test.YtkncpojijfeahaaGreatDoorRefSp
namespace Go.Proofs.YtkncpojijfeahaaGreatDoor
open Go.ChangeShapes Go.WideShapes Go.ChangeAt Go.RowKit
set_option linter.unusedVariables false

def Ps.isBad {α : Type} : Ps α → Bool
  | .ok _ _ => false
  | .fail _ _ => true
def wdV : Ps (List UInt8) → ByteArray
  | .ok v _ => ba v
  | .fail _ _ => ⟨#[]⟩
/-- What a reader's call answers: the place, and a value. -/
def RdV {α : Type} (e : Ending) (s : ByteArray) (r : Ps α) (v : Value) : Prop := e = .returned (.tuple #[.agg #[.string s, .int .i64 (pos s r.left : Int), .bool r.isBad], v])
def RdS {α : Type} (e : Ending) (s : ByteArray) (r : Ps α) : Prop := e = .returned (.agg #[.string s, .int .i64 (pos s r.left : Int), .bool r.isBad])
theorem pos_nil (s : ByteArray) : pos s [] = s.size := rfl

set_option maxRecDepth 100000 in
set_option maxHeartbeats 2000000 in
theorem rword_t (s : ByteArray) (k : Nat) (w : World) : Calls Tryz.prog 89 #[.agg #[.string s, .int .i64 (k : Int), .bool true]] w fun e w' => e = .returned (.tuple #[.agg #[.string s, .int .i64 (k : Int), .bool true], .string ⟨#[]⟩]) ∧ Below w.heap.size w w' := by
  have HS : Hid (Sp w _ s k true) := Sp.init w s k true
  go_enter Tryz.func89, Tryz.ntmps89
  go_wp2_with fail
  refine Calls.mono (rblanks_t s k _) ?_
  rintro e W1 ⟨rfl, b1⟩
  have S1 : Hid (Sp w W1 s k true) := HS.out.below b1
  have S2 : Hid (Sp w _ s k true) := S1.out.set3 k true
  obtain ⟨c0, c1, c2, cf, cl, d0, d1, d2, df, dl⟩ := S1.out.cells
  clear b1 HS
  go_wp2_with fail
  refine Calls.mono (rbad_t s k k _) ?_
  rintro e W3 ⟨rfl, b3⟩
  have S3 : Hid (Sp w W3 s k true) := S2.out.below b3
  clear c0 c1 c2 cf cl d0 d1 d2 df dl b3 S1 S2
  obtain ⟨c0, c1, c2, cf, cl, d0, d1, d2, df, dl⟩ := S3.out.cells
  have HB : Hid _ := S3.out.done (.string s) (.int .i64 (k : Int)) (.bool true)
  go_wp2
  exact bodyPost_ret (v := .tuple #[.agg #[.string s, .int .i64 (k : Int), .bool true], .string ⟨#[]⟩]) (by simp [results, Tryz.results89, go_sem, *]) rfl ⟨rfl, HB.out⟩

set_option maxRecDepth 100000 in
set_option maxHeartbeats 4000000 in
theorem rword_f (s : ByteArray) (k : Nat) (w : World) (hk : k ≤ s.size) (hs : s.size ≤ 1000) : Calls Tryz.prog 89 #[.agg #[.string s, .int .i64 (k : Int), .bool false]] w fun e w' => RdV e s (rWord (dr s k)) (.string (wdV (rWord (dr s k)))) ∧ Below w.heap.size w w' := by
  have HS : Hid (Sp w _ s k false) := Sp.init w s k false
  have HBL : Hid _ := fun W => rblanks_f s k W hk hs
  have hnd := nb_dr s k
  have hnl := nb_le s k
  generalize nb s k = n at *
  have HN : Hid (dr s n = (dr s k).dropWhile isBlank) := hnd
  clear hnd
  go_enter Tryz.func89, Tryz.ntmps89
  go_wp2_with fail
  refine Calls.mono (HBL.out _) ?_
  rintro e W1 ⟨rfl, b1⟩
  have S1 : Hid (Sp w W1 s k false) := HS.out.below b1
  have S2 : Hid (Sp w _ s n false) := S1.out.set3 n false
  obtain ⟨c0, c1, c2, cf, cl, d0, d1, d2, df, dl⟩ := S1.out.cells
  clear b1 HS HBL
  by_cases hlt : n < s.size
  · have hdec : decide (s.size ≤ n) = false := by simpa using hlt
    cases hL : isLetter s[n] with
    | false =>
      have HL : Hid (isLetter s[n] = false) := hL
      have HR : Hid (rWord (dr s k) = .fail false (dr s n)) := by
        show rWord (dr s k) = _
        unfold rWord
        rw [← HN.out, dr_cons s n hlt]
        simp only
        rw [HL.out]; rfl
      clear hL
      go_wp2_with fail
      refine Calls.mono (rletter_is _ _ HL.out) ?_
      rintro e V ⟨rfl, hV⟩
      have SV : Hid (Sp w V s n false) := by rw [Hid, hV]; exact S2.out
      clear hV c0 c1 c2 cf cl d0 d1 d2 df dl S1 S2
      obtain ⟨c0, c1, c2, cf, cl, d0, d1, d2, df, dl⟩ := SV.out.cells
      go_wp2_with fail
      refine Calls.mono (rbad_f s n n _) ?_
      rintro e W3 ⟨rfl, b3⟩
      have S3 : Hid (Sp w W3 s n false) := SV.out.below b3
      clear c0 c1 c2 cf cl d0 d1 d2 df dl b3 SV
      obtain ⟨c0, c1, c2, cf, cl, d0, d1, d2, df, dl⟩ := S3.out.cells
      have HB : Hid _ := S3.out.done (.string s) (.int .i64 (n : Int)) (.bool true)
      go_wp2
      refine bodyPost_ret (v := .tuple #[.agg #[.string s, .int .i64 (n : Int), .bool true], .string ⟨#[]⟩]) (by simp [results, Tryz.results89, go_sem, *]) rfl ⟨?_, HB.out⟩
      rw [HR.out]
      show Ending.returned _ = Ending.returned (.tuple #[.agg #[.string s, .int .i64 (pos s (dr s n) : Int), .bool true], .string ⟨#[]⟩])
      rw [pos_dr hnl]
    | true =>
      have HL : Hid (isLetter s[n] = true) := hL
      have HR : Hid (rWord (dr s k) = .ok ((dr s n).takeWhile alnum) ((dr s n).dropWhile alnum)) := by
        show rWord (dr s k) = _
        unfold rWord
        rw [← HN.out, dr_cons s n hlt]
        simp only
        rw [HL.out]; rfl
      clear hL
      go_wp2_with fail
      refine Calls.mono (rletter_is _ _ HL.out) ?_
      rintro e V ⟨rfl, hV⟩
      have SV : Hid (Sp w V s n false) := by rw [Hid, hV]; exact S2.out
      clear hV c0 c1 c2 cf cl d0 d1 d2 df dl S1 S2
      obtain ⟨c0, c1, c2, cf, cl, d0, d1, d2, df, dl⟩ := SV.out.cells
      have hal : alnum s[n] = true := by unfold alnum; rw [HL.out]; rfl
      have HI0 : Hid (((dr s n).takeWhile alnum = (dr s n).take (n + 1 - n) ++ (dr s (n + 1)).takeWhile alnum) ∧ (dr s n).dropWhile alnum = (dr s (n + 1)).dropWhile alnum) := by
        have := word_go s n n (Nat.le_refl _) hlt hal (by simp) rfl
        exact this
      clear hal
      go_wp2_with fail
      go_loopg [4] (s.size - (n + 1)) (fun kx t wr => ∃ j : Nat, t = .int .i64 (j : Int) ∧ n < j ∧ j ≤ s.size ∧ kx = s.size - j ∧ V = wr ∧ Hid (((dr s n).takeWhile alnum = (dr s n).take (j - n) ++ (dr s j).takeWhile alnum) ∧ (dr s n).dropWhile alnum = (dr s j).dropWhile alnum))
      case atStart => exact ⟨n + 1, by go_num, by omega, by omega, rfl, rfl, HI0⟩
      case round =>
        obtain ⟨j, rfl, hnj, hj, rfl, rfl, I⟩ := hrel
        by_cases hgo : ∃ h : j < s.size, alnum s[j] = true
        · obtain ⟨hjl, hal⟩ := hgo
          have I2 : Hid (((dr s n).takeWhile alnum = (dr s n).take (j + 1 - n) ++ (dr s (j + 1)).takeWhile alnum) ∧ (dr s n).dropWhile alnum = (dr s (j + 1)).dropWhile alnum) := word_go s n j (by omega) hjl hal I.out.1 I.out.2
          cases hL2 : isLetter s[j] with
          | true =>
            have HL2 : Hid (isLetter s[j] = true) := hL2
            clear hL2 hal
            go_wp2_with fail
            refine Calls.mono (rletter_is _ _ HL2.out) ?_
            rintro e V' ⟨rfl, hV'⟩
            subst V'
            go_wp2
            go_roundg (s.size - (j + 1))
            case measure => omega
            case rel => exact ⟨j + 1, by go_num, by omega, by omega, rfl, rfl, I2⟩
          | false =>
            have HL2 : Hid (isLetter s[j] = false) := hL2
            have HD2 : Hid (isDigit s[j] = true) := by
              rw [Hid]; unfold alnum at hal; rw [hL2] at hal; simpa using hal
            clear hL2 hal
            go_wp2_with fail
            refine Calls.mono (rletter_is _ _ HL2.out) ?_
            rintro e V' ⟨rfl, hV'⟩
            subst V'
            go_wp2_with fail
            refine Calls.mono (rdigit_is _ _ HD2.out) ?_
            rintro e V' ⟨rfl, hV'⟩
            subst V'
            go_wp2
            go_roundg (s.size - (j + 1))
            case measure => omega
            case rel => exact ⟨j + 1, by go_num, by omega, by omega, rfl, rfl, I2⟩
        · have htw : (dr s j).takeWhile alnum = [] ∧ (dr s j).dropWhile alnum = dr s j := by
            by_cases hjl : j < s.size
            · have hf : alnum s[j] = false := by
                cases h : alnum s[j] with
                | false => rfl
                | true => exact absurd ⟨hjl, h⟩ hgo
              rw [dr_cons s j hjl, List.takeWhile_cons_of_neg (by rw [hf]; simp), List.dropWhile_cons_of_neg (by rw [hf]; simp)]
              exact ⟨rfl, rfl⟩
            · rw [dr_end s j (by omega)]; exact ⟨rfl, rfl⟩
          have HE : Hid ((dr s n).takeWhile alnum = (dr s n).take (j - n) ∧ (dr s n).dropWhile alnum = dr s j) := by
            refine ⟨?_, ?_⟩
            · rw [I.out.1, htw.1, List.append_nil]
            · rw [I.out.2, htw.2]
          have HX : Hid (s.extract n j = ba ((dr s n).take (j - n))) := ext_ba s n j (by omega) hj
          have hfail : (¬ j < s.size) ∨ (∃ h : j < s.size, Hid (isLetter s[j] = false ∧ isDigit s[j] = false)) := by
            by_cases hjl : j < s.size
            · refine Or.inr ⟨hjl, ?_⟩
              have hf : alnum s[j] = false := by
                cases h : alnum s[j] with
                | false => rfl
                | true => exact absurd ⟨hjl, h⟩ hgo
              unfold alnum at hf
              rw [Hid]
              simpa using hf
            · exact Or.inl hjl
          have HB : Hid _ := (SV.out.set1 j).done (.string s) (.int .i64 (j : Int)) (.bool false)
          clear hgo htw I
          have hnj' : n ≤ j := by omega
          rcases hfail with hjl | ⟨hjl, HF⟩
          · go_wp2
            refine bodyPost_ret (v := .tuple #[.agg #[.string s, .int .i64 (j : Int), .bool false], .string (s.extract n j)]) (by simp [results, Tryz.results89, go_sem, *]) rfl ⟨?_, HB.out⟩
            rw [HR.out]
            show Ending.returned _ = Ending.returned (.tuple #[.agg #[.string s, .int .i64 (pos s ((dr s n).dropWhile alnum) : Int), .bool false], .string (ba ((dr s n).takeWhile alnum))])
            rw [HE.out.1, HE.out.2, pos_dr hj, HX.out]
          · go_wp2_with fail
            refine Calls.mono (rletter_is _ _ HF.out.1) ?_
            rintro e V' ⟨rfl, hV'⟩
            subst V'
            go_wp2_with fail
            refine Calls.mono (rdigit_is _ _ HF.out.2) ?_
            rintro e V' ⟨rfl, hV'⟩
            subst V'
            go_wp2
            refine bodyPost_ret (v := .tuple #[.agg #[.string s, .int .i64 (j : Int), .bool false], .string (s.extract n j)]) (by simp [results, Tryz.results89, go_sem, *]) rfl ⟨?_, HB.out⟩
            rw [HR.out]
            show Ending.returned _ = Ending.returned (.tuple #[.agg #[.string s, .int .i64 (pos s ((dr s n).dropWhile alnum) : Int), .bool false], .string (ba ((dr s n).takeWhile alnum))])
            rw [HE.out.1, HE.out.2, pos_dr hj, HX.out]
  · obtain rfl : n = s.size := by omega
    have HR : Hid (rWord (dr s k) = .fail true []) := by
      show rWord (dr s k) = _
      unfold rWord
      rw [← HN.out, dr_end s s.size (Nat.le_refl _)]
    go_wp2_with fail
    refine Calls.mono (rbad_f s s.size s.size _) ?_
    rintro e W3 ⟨rfl, b3⟩
    have S3 : Hid (Sp w W3 s s.size false) := S2.out.below b3
    clear c0 c1 c2 cf cl d0 d1 d2 df dl b3 S1 S2
    obtain ⟨c0, c1, c2, cf, cl, d0, d1, d2, df, dl⟩ := S3.out.cells
    have HB : Hid _ := S3.out.done (.string s) (.int .i64 (s.size : Int)) (.bool true)
    go_wp2
    refine bodyPost_ret (v := .tuple #[.agg #[.string s, .int .i64 (s.size : Int), .bool true], .string ⟨#[]⟩]) (by simp [results, Tryz.results89, go_sem, *]) rfl ⟨?_, HB.out⟩
    rw [HR.out]
    rfl
end Go.Proofs.YtkncpojijfeahaaGreatDoor
