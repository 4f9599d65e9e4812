/- The document's reader (wigwagref06): number. -/
import Derived.Test.YtkncpojijfeahaaGreatDoorRefMk
namespace Go.Proofs.YtkncpojijfeahaaGreatDoor
open Go.ChangeShapes Go.WideShapes Go.ChangeAt Go.RowKit
set_option linter.unusedVariables false

def nmV : Ps Int → Int
  | .ok v _ => v
  | .fail _ _ => 0
theorem dr_drop (s : ByteArray) (i j : Nat) : (dr s i).drop j = dr s (i + j) := by unfold dr; rw [List.drop_drop]
theorem dr_split (s : ByteArray) (i j : Nat) : (dr s i).take j ++ dr s (i + j) = dr s i := by rw [← dr_drop]; exact List.take_append_drop j (dr s i)
theorem sgn_yes (s : ByteArray) (n : Nat) (h : n < s.size) (hc : s[n].toNat = 45) : nSign (dr s n) = [s[n]] ∧ nDigits (dr s n) = (dr s (n + 1)).takeWhile isDigit ∧ nRest (dr s n) = (dr s (n + 1)).dropWhile isDigit := by
  have e : nSign (dr s n) = [s[n]] := by rw [dr_cons s n h]; unfold nSign; exact if_pos hc
  refine ⟨e, ?_, ?_⟩
  · unfold nDigits; rw [e, dr_drop]; rfl
  · unfold nRest; rw [e, dr_drop]; rfl
theorem sgn_no (s : ByteArray) (n : Nat) (h : n < s.size) (hc : ¬ s[n].toNat = 45) : nSign (dr s n) = [] ∧ nDigits (dr s n) = (dr s n).takeWhile isDigit ∧ nRest (dr s n) = (dr s n).dropWhile isDigit := by
  have e : nSign (dr s n) = [] := by rw [dr_cons s n h]; unfold nSign; exact if_neg hc
  refine ⟨e, ?_, ?_⟩
  · unfold nDigits; rw [e]; rfl
  · unfold nRest; rw [e]; rfl
theorem dig_stop (s : ByteArray) (i j : Nat) (h : ∀ c ∈ (dr s i).take j, isDigit c = true) (hr : NoDig (dr s (i + j))) : (dr s i).takeWhile isDigit = (dr s i).take j ∧ (dr s i).dropWhile isDigit = dr s (i + j) := by
  have := tw_dig (l := (dr s i).take j) (r := dr s (i + j)) h hr
  rw [dr_split] at this
  exact this
theorem dig_many (s : ByteArray) (i j : Nat) (h : ∀ c ∈ (dr s i).take j, isDigit c = true) (hj : i + j ≤ s.size) : j ≤ ((dr s i).takeWhile isDigit).length := by
  have e := List.takeWhile_append_of_pos (p := isDigit) (l₁ := (dr s i).take j) (l₂ := dr s (i + j)) h
  rw [dr_split] at e
  rw [e, List.length_append, List.length_take, dr_len]
  omega
theorem take_dig (s : ByteArray) (i j : Nat) (h : i + j < s.size) : (dr s i).take (j + 1) = (dr s i).take j ++ [s[i + j]] := by
  have hl : j < (dr s i).length := by rw [dr_len]; omega
  have e1 : (dr s i)[j]? = some s[i + j] := by
    show (s.data.toList.drop i)[j]? = _
    rw [List.getElem?_drop, List.getElem?_eq_getElem (by simpa using h)]
    rfl
  have e2 : (dr s i)[j] = s[i + j] := by
    rw [List.getElem?_eq_getElem hl] at e1; exact Option.some.inj e1
  rw [List.take_succ_eq_append_getElem hl, e2]
theorem dv_bd (l : List UInt8) (h : ∀ c ∈ l, isDigit c = true) (hl : l.length ≤ 11) : dv l < 100000000000 := by
  have h1 := dv_lt l h
  have h2 : (10 : Nat) ^ l.length ≤ 10 ^ 11 := Nat.pow_le_pow_right (by omega) hl
  have h3 : (10 : Nat) ^ 11 = 100000000000 := by decide
  omega
theorem nodig_dr (s : ByteArray) (k : Nat) (h : ∀ hk : k < s.size, isDigit s[k] = false) : NoDig (dr s k) := by
  by_cases hk : k < s.size
  · rw [dr_cons s k hk]; exact h hk
  · rw [dr_end s k (by omega)]; trivial
/-- What the reader answers, by what stands there. -/
theorem nm_bad (s : ByteArray) (k n : Nat) (hn : dr s n = (dr s k).dropWhile isBlank) (hl : n ≤ s.size) (h : n < s.size → nBad (dr s n)) : RdV (.returned (.tuple #[.agg #[.string s, .int .i64 (n : Int), .bool true], .int .i64 0])) s (rNumber (dr s k)) (.int .i64 (nmV (rNumber (dr s k)))) := by
  unfold RdV
  by_cases hlt : n < s.size
  · have e := dr_cons s n hlt
    rw [e] at hn h
    rw [rnum_no hn.symm (h hlt)]
    show _ = Ending.returned (.tuple #[.agg #[.string s, .int .i64 (pos s (s[n] :: dr s (n + 1)) : Int), .bool true], .int .i64 0])
    rw [← e, pos_dr hl]
  · obtain rfl : n = s.size := by omega
    rw [dr_end s s.size (Nat.le_refl _)] at hn
    rw [rnum_end hn.symm]
    rfl
theorem nm_good (s : ByteArray) (k n kk : Nat) (v : Int) (hn : dr s n = (dr s k).dropWhile isBlank) (hlt : n < s.size) (hb : ¬ nBad (dr s n)) (hr : nRest (dr s n) = dr s kk) (hkk : kk ≤ s.size) (hv : nVal (dr s n) = v) : RdV (.returned (.tuple #[.agg #[.string s, .int .i64 (kk : Int), .bool false], .int .i64 v])) s (rNumber (dr s k)) (.int .i64 (nmV (rNumber (dr s k)))) := by
  unfold RdV
  have e := dr_cons s n hlt
  rw [e] at hn hb hr hv
  rw [rnum_ok hn.symm hb]
  show _ = Ending.returned (.tuple #[.agg #[.string s, .int .i64 (pos s (nRest (s[n] :: dr s (n + 1))) : Int), .bool false], .int .i64 (nVal (s[n] :: dr s (n + 1)))])
  rw [hr, hv, pos_dr hkk]

set_option maxRecDepth 100000 in
set_option maxHeartbeats 2000000 in
theorem rnumber_t (s : ByteArray) (k : Nat) (w : World) : Calls Tryz.prog 105 #[.agg #[.string s, .int .i64 (k : Int), .bool true]] w fun e w' => e = .returned (.tuple #[.agg #[.string s, .int .i64 (k : Int), .bool true], .int .i64 0]) ∧ Below w.heap.size w w' := by
  have HS : Hid (Sp w _ s k true) := Sp.init w s k true
  go_enter Tryz.func105, Tryz.ntmps105
  go_wp2_with fail
  refine Calls.mono (rblanks_t s k _) ?_
  rintro e W1 ⟨rfl, b1⟩
  have S1 : Hid (Sp w W1 s k true) := HS.out.below b1
  obtain ⟨c0, c1, c2, cf, cl, d0, d1, d2, df, dl⟩ := S1.out.cells
  have HB : Hid _ := (S1.out.set3 k true).done (.string s) (.int .i64 (k : Int)) (.bool true)
  clear b1 HS
  go_wp2
  exact bodyPost_ret (v := .tuple #[.agg #[.string s, .int .i64 (k : Int), .bool true], .int .i64 0]) (by simp [results, Tryz.results105, go_sem, *]) rfl ⟨rfl, HB.out⟩

set_option maxRecDepth 100000 in
set_option maxHeartbeats 8000000 in
theorem rnumber_e (s : ByteArray) (k : Nat) (w : World) (hk : k ≤ s.size) (hs : s.size ≤ 1000) (n : Nat) (hnb : nb s k = n) (hlt : ¬ n < s.size) : Calls Tryz.prog 105 #[.agg #[.string s, .int .i64 (k : Int), .bool false]] w fun e w' => RdV e s (rNumber (dr s k)) (.int .i64 (nmV (rNumber (dr s k)))) ∧ Below w.heap.size w w' := by
  have HS : Hid (Sp w _ s k false) := Sp.init w s k false
  have HBL : Hid _ := fun W => rblanks_f s k W hk hs
  have hnd := nb_dr s k
  have hnl := nb_le s k
  rw [hnb] at hnd hnl HBL
  have HN : Hid (dr s n = (dr s k).dropWhile isBlank) := hnd
  clear hnd hnb
  go_enter Tryz.func105, Tryz.ntmps105
  go_wp2_with fail
  refine Calls.mono (HBL.out _) ?_
  rintro e W1 ⟨rfl, b1⟩
  have S1 : Hid (Sp w W1 s k false) := HS.out.below b1
  obtain ⟨c0, c1, c2, cf, cl, d0, d1, d2, df, dl⟩ := S1.out.cells
  clear b1 HS HBL
  go_upto_region 2 with fail
  obtain ⟨V, hV⟩ : ∃ V, V = ((W1.setCell ⟨w.heap.size, 0, none⟩ (.string s)).setCell ⟨w.heap.size, 1, none⟩ (.int .i64 (n : Int))).setCell ⟨w.heap.size, 2, none⟩ (.bool false) := ⟨_, rfl⟩
  rw [← hV]
  have S2 : Hid (Sp w V s n false) := by rw [Hid, hV]; exact S1.out.set3 n false
  clear c0 c1 c2 cf cl d0 d1 d2 df dl hV S1
  obtain ⟨c0, c1, c2, cf, cl, d0, d1, d2, df, dl⟩ := S2.out.cells
  have HBAD : Hid _ := nm_bad s k n HN.out hnl (fun h => absurd h hlt)
  have hz : ((n : Int) == (n : Int)) = true := by simp
  go_wp2_with fail
  go_loopg [6, 7] 0 (fun kx a b wr => a = .int .i64 0 ∧ b = .int .i64 (n : Int) ∧ kx = 0 ∧ V = wr)
  case atStart => exact ⟨rfl, rfl, rfl, rfl⟩
  case round =>
    obtain ⟨rfl, rfl, hkx, rfl⟩ := hrel
    go_wp2_with fail
    refine Calls.mono (rbad_f s n n _) ?_
    rintro e W3 ⟨rfl, b3⟩
    have S3 : Hid (Sp w W3 s n false) := S2.out.below b3
    clear c0 c1 c2 cf cl d0 d1 d2 df dl b3 S2
    obtain ⟨c0, c1, c2, cf, cl, d0, d1, d2, df, dl⟩ := S3.out.cells
    have HB : Hid _ := S3.out.done (.string s) (.int .i64 (n : Int)) (.bool true)
    go_wp2
    exact bodyPost_ret (v := .tuple #[.agg #[.string s, .int .i64 (n : Int), .bool true], .int .i64 0]) (by simp [results, Tryz.results105, go_sem, *]) rfl ⟨HBAD.out, HB.out⟩

set_option maxRecDepth 100000 in
set_option maxHeartbeats 8000000 in
theorem rnumber_m (s : ByteArray) (k : Nat) (w : World) (hk : k ≤ s.size) (hs : s.size ≤ 1000) (n : Nat) (hnb : nb s k = n) (hlt : n < s.size) (hc : (s[n].toNat : Int) = 45) : Calls Tryz.prog 105 #[.agg #[.string s, .int .i64 (k : Int), .bool false]] w fun e w' => RdV e s (rNumber (dr s k)) (.int .i64 (nmV (rNumber (dr s k)))) ∧ Below w.heap.size w w' := by
  have HS : Hid (Sp w _ s k false) := Sp.init w s k false
  have HBL : Hid _ := fun W => rblanks_f s k W hk hs
  have hnd := nb_dr s k
  have hnl := nb_le s k
  rw [hnb] at hnd hnl HBL
  have HN : Hid (dr s n = (dr s k).dropWhile isBlank) := hnd
  clear hnd hnb
  go_enter Tryz.func105, Tryz.ntmps105
  go_wp2_with fail
  refine Calls.mono (HBL.out _) ?_
  rintro e W1 ⟨rfl, b1⟩
  have S1 : Hid (Sp w W1 s k false) := HS.out.below b1
  obtain ⟨c0, c1, c2, cf, cl, d0, d1, d2, df, dl⟩ := S1.out.cells
  clear b1 HS HBL
  go_upto_region 2 with fail
  obtain ⟨V, hV⟩ : ∃ V, V = ((W1.setCell ⟨w.heap.size, 0, none⟩ (.string s)).setCell ⟨w.heap.size, 1, none⟩ (.int .i64 (n : Int))).setCell ⟨w.heap.size, 2, none⟩ (.bool false) := ⟨_, rfl⟩
  rw [← hV]
  have S2 : Hid (Sp w V s n false) := by rw [Hid, hV]; exact S1.out.set3 n false
  clear c0 c1 c2 cf cl d0 d1 d2 df dl hV S1
  obtain ⟨c0, c1, c2, cf, cl, d0, d1, d2, df, dl⟩ := S2.out.cells
  obtain ⟨i, hi⟩ : ∃ i : Nat, i = n + 1 := ⟨_, rfl⟩
  have hii : (n : Int) + 1 = (i : Int) := by omega
  have HSG : Hid (nSign (dr s n) = [s[n]] ∧ nDigits (dr s n) = (dr s i).takeWhile isDigit ∧ nRest (dr s n) = (dr s i).dropWhile isDigit) := by rw [Hid, hi]; exact sgn_yes s n hlt (by omega)
  have hil : i ≤ s.size := by omega
  have hb1 : ((s[n].toNat : Int) == 45) = true := by simpa using hc
  clear hi
  have HB0 : Hid (nBad (dr s n) → RdV (.returned (.tuple #[.agg #[.string s, .int .i64 (n : Int), .bool true], .int .i64 0])) s (rNumber (dr s k)) (.int .i64 (nmV (rNumber (dr s k))))) := fun h => nm_bad s k n HN.out hnl (fun _ => h)
  have HG0 : Hid (∀ (kk : Nat) (v : Int), ¬ nBad (dr s n) → nRest (dr s n) = dr s kk → kk ≤ s.size → nVal (dr s n) = v → RdV (.returned (.tuple #[.agg #[.string s, .int .i64 (kk : Int), .bool false], .int .i64 v])) s (rNumber (dr s k)) (.int .i64 (nmV (rNumber (dr s k))))) := fun kk v h1 h2 h3 h4 => nm_good s k n kk v HN.out hlt h1 h2 h3 h4
  go_wp2_with fail
  go_loopg [6, 7] 11 (fun kx a b wr => ∃ j kk A : Nat, a = .int .i64 (A : Int) ∧ b = .int .i64 (kk : Int) ∧ j ≤ 11 ∧ kk ≤ s.size ∧ kx = 11 - j ∧ V = wr ∧ A < 100000000000 ∧ Hid (kk = i + j ∧ A = dv ((dr s i).take j) ∧ ∀ c ∈ (dr s i).take j, isDigit c = true))
  case atStart => exact ⟨0, i, 0, rfl, rfl, by omega, hil, rfl, rfl, by omega, (⟨by omega, by simp [dv, dva], by simp⟩ : _ ∧ _ ∧ _)⟩
  case round =>
    obtain ⟨j, kk, A, rfl, rfl, hj, hkk, rfl, rfl, hA, J⟩ := hrel
    have hsub : (kk : Int) - (i : Int) = (j : Int) := by have := J.out.1; omega
    by_cases hgo : ∃ h : kk < s.size, isDigit s[kk] = true ∧ j < 11
    · obtain ⟨hkl, hdg, hj11⟩ := hgo
      have HD : Hid (isDigit s[kk] = true) := hdg
      have hcc : (48 : Int) ≤ (s[kk].toNat : Int) ∧ (s[kk].toNat : Int) ≤ 57 := by unfold isDigit at hdg; simp at hdg; omega
      obtain ⟨hc1, hc2⟩ := hcc
      have J2 : Hid (kk + 1 = i + (j + 1) ∧ 10 * A + (s[kk].toNat - 48) = dv ((dr s i).take (j + 1)) ∧ (∀ c ∈ (dr s i).take (j + 1), isDigit c = true) ∧ 10 * A + (s[kk].toNat - 48) < 100000000000) := by
        obtain ⟨q1, q2, q3⟩ := J.out
        subst q1
        have e := take_dig s i j hkl
        have hall : ∀ c ∈ (dr s i).take (j + 1), isDigit c = true := by
          rw [e]; intro c hc
          rcases List.mem_append.1 hc with h | h
          · exact q3 c h
          · rw [List.mem_singleton.1 h]; exact HD.out
        have ed : 10 * A + (s[i + j].toNat - 48) = dv ((dr s i).take (j + 1)) := by rw [e, dv_snoc, ← q2]
        refine ⟨by omega, ed, hall, ?_⟩
        rw [ed]
        exact dv_bd _ hall (by rw [List.length_take]; omega)
      clear hdg
      go_wp2_with fail
      refine Calls.mono (rdigit_is _ _ HD.out) ?_
      rintro e V' ⟨rfl, hV'⟩
      subst V'

      go_wp2
      go_roundg (11 - (j + 1))
      case measure => omega
      case rel => exact ⟨j + 1, kk + 1, 10 * A + (s[kk].toNat - 48), int_eq (by omega), by go_num, by omega, by omega, rfl, rfl, J2.out.2.2.2, (⟨J2.out.1, J2.out.2.1, J2.out.2.2.1⟩ : _ ∧ _ ∧ _)⟩
    · by_cases h11 : j = 11
      · have hbad : nBad (dr s n) := by
          obtain ⟨q1, q2, q3⟩ := J.out
          have := dig_many s i j q3 (by omega)
          refine Or.inr (Or.inl ?_)
          rw [HSG.out.2.1]; omega
        have HBAD : Hid _ := HB0.out hbad
        have e1 : ((kk : Int) == (i : Int)) = false := by simp; omega
        have e1' : ¬ (kk : Int) = (i : Int) := by omega
        have hj10 : (10 : Int) < (j : Int) := by omega
        have hj11' : ¬ (j : Int) < 11 := by omega
        clear hbad HB0 HG0 J
        by_cases hkl : kk < s.size
        · cases hdg : isDigit s[kk] with
          | true =>
            have HD : Hid (isDigit s[kk] = true) := hdg
            clear hdg hgo
            go_wp2_with fail
            refine Calls.mono (rdigit_is _ _ HD.out) ?_
            rintro e V' ⟨rfl, hV'⟩
            subst V'
            go_wp2_with fail
            refine Calls.mono (rbad_f s n n _) ?_
            rintro e W3 ⟨rfl, b3⟩
            have S3 : Hid (Sp w W3 s n false) := S2.out.below b3
            clear c0 c1 c2 cf cl d0 d1 d2 df dl b3 S2
            obtain ⟨c0, c1, c2, cf, cl, d0, d1, d2, df, dl⟩ := S3.out.cells
            have HB : Hid _ := S3.out.done (.string s) (.int .i64 (n : Int)) (.bool true)
            go_wp2
            exact bodyPost_ret (v := .tuple #[.agg #[.string s, .int .i64 (n : Int), .bool true], .int .i64 0]) (by simp [results, Tryz.results105, go_sem, *]) rfl ⟨HBAD.out, HB.out⟩
          | false =>
            have HD : Hid (isDigit s[kk] = false) := hdg
            clear hdg hgo
            go_wp2_with fail
            refine Calls.mono (rdigit_is _ _ HD.out) ?_
            rintro e V' ⟨rfl, hV'⟩
            subst V'
            go_wp2_with fail
            refine Calls.mono (rbad_f s n n _) ?_
            rintro e W3 ⟨rfl, b3⟩
            have S3 : Hid (Sp w W3 s n false) := S2.out.below b3
            clear c0 c1 c2 cf cl d0 d1 d2 df dl b3 S2
            obtain ⟨c0, c1, c2, cf, cl, d0, d1, d2, df, dl⟩ := S3.out.cells
            have HB : Hid _ := S3.out.done (.string s) (.int .i64 (n : Int)) (.bool true)
            go_wp2
            exact bodyPost_ret (v := .tuple #[.agg #[.string s, .int .i64 (n : Int), .bool true], .int .i64 0]) (by simp [results, Tryz.results105, go_sem, *]) rfl ⟨HBAD.out, HB.out⟩
        · clear hgo
          go_wp2_with fail
          refine Calls.mono (rbad_f s n n _) ?_
          rintro e W3 ⟨rfl, b3⟩
          have S3 : Hid (Sp w W3 s n false) := S2.out.below b3
          clear c0 c1 c2 cf cl d0 d1 d2 df dl b3 S2
          obtain ⟨c0, c1, c2, cf, cl, d0, d1, d2, df, dl⟩ := S3.out.cells
          have HB : Hid _ := S3.out.done (.string s) (.int .i64 (n : Int)) (.bool true)
          go_wp2
          exact bodyPost_ret (v := .tuple #[.agg #[.string s, .int .i64 (n : Int), .bool true], .int .i64 0]) (by simp [results, Tryz.results105, go_sem, *]) rfl ⟨HBAD.out, HB.out⟩
      · have hj11 : (j : Int) < 11 := by omega
        have hnd : ∀ hk : kk < s.size, isDigit s[kk] = false := fun hk => by
          cases h : isDigit s[kk] with
          | false => rfl
          | true => exact absurd ⟨hk, h, by omega⟩ hgo
        have HT : Hid (nDigits (dr s n) = (dr s i).take j ∧ nRest (dr s n) = dr s kk ∧ (nDigits (dr s n)).length = j ∧ dv (nDigits (dr s n)) = A) := by
          obtain ⟨q1, q2, q3⟩ := J.out
          have e := dig_stop s i j q3 (by rw [← q1]; exact nodig_dr s kk hnd)
          have e1 : nDigits (dr s n) = (dr s i).take j := by rw [HSG.out.2.1, e.1]
          refine ⟨e1, by rw [HSG.out.2.2, e.2, q1], ?_, by rw [e1, q2]⟩
          rw [e1, List.length_take, dr_len]; omega
        have hway : (¬ kk < s.size) ∨ (∃ h : kk < s.size, Hid (isDigit s[kk] = false)) := by
          by_cases hkl : kk < s.size
          · exact Or.inr ⟨hkl, hnd hkl⟩
          · exact Or.inl hkl
        have HKI : Hid (kk = i + j) := J.out.1
        clear hgo hnd J
        by_cases hj0 : j = 0
        · have HBAD : Hid _ := HB0.out (Or.inl (List.eq_nil_of_length_eq_zero (by rw [HT.out.2.2.1]; exact hj0)))
          have hkI : i = kk := by have := HKI.out; omega
          clear HB0 HG0 HT hsub HKI
          subst hkI
          rcases hway with hkl | ⟨hkl, HD⟩
          · go_wp2_with fail
            refine Calls.mono (rbad_f s n n _) ?_
            rintro e W3 ⟨rfl, b3⟩
            have S3 : Hid (Sp w W3 s n false) := S2.out.below b3
            clear c0 c1 c2 cf cl d0 d1 d2 df dl b3 S2
            obtain ⟨c0, c1, c2, cf, cl, d0, d1, d2, df, dl⟩ := S3.out.cells
            have HB : Hid _ := S3.out.done (.string s) (.int .i64 (n : Int)) (.bool true)
            go_wp2
            exact bodyPost_ret (v := .tuple #[.agg #[.string s, .int .i64 (n : Int), .bool true], .int .i64 0]) (by simp [results, Tryz.results105, go_sem, *]) rfl ⟨HBAD.out, HB.out⟩
          · go_wp2_with fail
            refine Calls.mono (rdigit_is _ _ HD.out) ?_
            rintro e V' ⟨rfl, hV'⟩
            subst V'
            go_wp2_with fail
            refine Calls.mono (rbad_f s n n _) ?_
            rintro e W3 ⟨rfl, b3⟩
            have S3 : Hid (Sp w W3 s n false) := S2.out.below b3
            clear c0 c1 c2 cf cl d0 d1 d2 df dl b3 S2
            obtain ⟨c0, c1, c2, cf, cl, d0, d1, d2, df, dl⟩ := S3.out.cells
            have HB : Hid _ := S3.out.done (.string s) (.int .i64 (n : Int)) (.bool true)
            go_wp2
            exact bodyPost_ret (v := .tuple #[.agg #[.string s, .int .i64 (n : Int), .bool true], .int .i64 0]) (by simp [results, Tryz.results105, go_sem, *]) rfl ⟨HBAD.out, HB.out⟩
        · have e1 : ((kk : Int) == (i : Int)) = false := by have := HKI.out; simp; omega
          have e1' : ¬ (kk : Int) = (i : Int) := by have := HKI.out; omega
          have hj10 : ¬ (10 : Int) < (j : Int) := by omega
          have hIl : i < s.size := by have := HKI.out; omega
          have HH : Hid (∃ r, nDigits (dr s n) = s[i] :: r) := by
            rw [Hid, HT.out.1]
            obtain ⟨j', rfl⟩ : ∃ j', j = j' + 1 := ⟨j - 1, by omega⟩
            exact ⟨(dr s (i + 1)).take j', by rw [dr_cons s i hIl]; rfl⟩
          have hs1 := hj0
          by_cases hlead : 1 < j ∧ (s[i].toNat : Int) = 48
          · obtain ⟨hl1, hl2⟩ := hlead
            have HBAD : Hid _ := HB0.out (Or.inr (Or.inr (Or.inl ⟨by rw [HT.out.2.2.1]; exact hl1, by obtain ⟨r, hr⟩ := HH.out; exact ⟨_, r, hr, by omega⟩⟩)))
            have hl1' : (1 : Int) < (j : Int) := by omega
            have e2 : ((s[i].toNat : Int) == 48) = true := by simpa using hl2
            clear HB0 HG0 HT HH
            rcases hway with hkl | ⟨hkl, HD⟩
            · go_wp2_with fail
              refine Calls.mono (rbad_f s n n _) ?_
              rintro e W3 ⟨rfl, b3⟩
              have S3 : Hid (Sp w W3 s n false) := S2.out.below b3
              clear c0 c1 c2 cf cl d0 d1 d2 df dl b3 S2
              obtain ⟨c0, c1, c2, cf, cl, d0, d1, d2, df, dl⟩ := S3.out.cells
              have HB : Hid _ := S3.out.done (.string s) (.int .i64 (n : Int)) (.bool true)
              go_wp2
              exact bodyPost_ret (v := .tuple #[.agg #[.string s, .int .i64 (n : Int), .bool true], .int .i64 0]) (by simp [results, Tryz.results105, go_sem, *]) rfl ⟨HBAD.out, HB.out⟩
            · go_wp2_with fail
              refine Calls.mono (rdigit_is _ _ HD.out) ?_
              rintro e V' ⟨rfl, hV'⟩
              subst V'
              go_wp2_with fail
              refine Calls.mono (rbad_f s n n _) ?_
              rintro e W3 ⟨rfl, b3⟩
              have S3 : Hid (Sp w W3 s n false) := S2.out.below b3
              clear c0 c1 c2 cf cl d0 d1 d2 df dl b3 S2
              obtain ⟨c0, c1, c2, cf, cl, d0, d1, d2, df, dl⟩ := S3.out.cells
              have HB : Hid _ := S3.out.done (.string s) (.int .i64 (n : Int)) (.bool true)
              go_wp2
              exact bodyPost_ret (v := .tuple #[.agg #[.string s, .int .i64 (n : Int), .bool true], .int .i64 0]) (by simp [results, Tryz.results105, go_sem, *]) rfl ⟨HBAD.out, HB.out⟩
          · have HNL : Hid (¬ (1 < (nDigits (dr s n)).length ∧ ∃ c r, nDigits (dr s n) = c :: r ∧ c.toNat = 48)) := by
              rintro ⟨h1, c, r, h2, h3⟩
              obtain ⟨r', hr'⟩ := HH.out
              rw [hr'] at h2
              injection h2 with h2 _
              rw [HT.out.2.2.1] at h1
              exact hlead ⟨h1, by rw [h2]; omega⟩
            have hle : (¬ (1 : Int) < (j : Int)) ∨ ((1 : Int) < (j : Int) ∧ ((s[i].toNat : Int) == 48) = false) := by
              by_cases h1 : 1 < j
              · refine Or.inr ⟨by omega, ?_⟩
                have : ¬ (s[i].toNat : Int) = 48 := fun h => hlead ⟨h1, h⟩
                simpa using this
              · exact Or.inl (by omega)
            clear hlead
            by_cases hA0 : A = 0
            · have HBAD : Hid _ := HB0.out (Or.inr (Or.inr (Or.inr ⟨by rw [HSG.out.1]; simp, by rw [HT.out.2.2.2]; exact hA0⟩)))
              have e3 : ((A : Int) == 0) = true := by simpa using hA0
              clear HB0 HG0 HT HH HNL
              rcases hle with hle | ⟨hle, hle2⟩
              all_goals
                rcases hway with hkl | ⟨hkl, HD⟩
                · go_wp2_with fail
                  refine Calls.mono (rbad_f s n n _) ?_
                  rintro e W3 ⟨rfl, b3⟩
                  have S3 : Hid (Sp w W3 s n false) := S2.out.below b3
                  clear c0 c1 c2 cf cl d0 d1 d2 df dl b3 S2
                  obtain ⟨c0, c1, c2, cf, cl, d0, d1, d2, df, dl⟩ := S3.out.cells
                  have HB : Hid _ := S3.out.done (.string s) (.int .i64 (n : Int)) (.bool true)
                  go_wp2
                  exact bodyPost_ret (v := .tuple #[.agg #[.string s, .int .i64 (n : Int), .bool true], .int .i64 0]) (by simp [results, Tryz.results105, go_sem, *]) rfl ⟨HBAD.out, HB.out⟩
                · go_wp2_with fail
                  refine Calls.mono (rdigit_is _ _ HD.out) ?_
                  rintro e V' ⟨rfl, hV'⟩
                  subst V'
                  go_wp2_with fail
                  refine Calls.mono (rbad_f s n n _) ?_
                  rintro e W3 ⟨rfl, b3⟩
                  have S3 : Hid (Sp w W3 s n false) := S2.out.below b3
                  clear c0 c1 c2 cf cl d0 d1 d2 df dl b3 S2
                  obtain ⟨c0, c1, c2, cf, cl, d0, d1, d2, df, dl⟩ := S3.out.cells
                  have HB : Hid _ := S3.out.done (.string s) (.int .i64 (n : Int)) (.bool true)
                  go_wp2
                  exact bodyPost_ret (v := .tuple #[.agg #[.string s, .int .i64 (n : Int), .bool true], .int .i64 0]) (by simp [results, Tryz.results105, go_sem, *]) rfl ⟨HBAD.out, HB.out⟩
            · have e3 : ((A : Int) == 0) = false := by simpa using hA0
              have HGD : Hid _ := HG0.out kk (-(A : Int)) (fun hb => by
                rcases hb with h | h | h | h
                · have := HT.out.2.2.1; rw [h] at this; simp at this; omega
                · rw [HT.out.2.2.1] at h; omega
                · exact HNL.out h
                · exact hA0 (by rw [← HT.out.2.2.2]; exact h.2)) HT.out.2.1 hkk (by unfold nVal; rw [HSG.out.1, HT.out.2.2.2]; rfl)
              have HB : Hid _ := (S2.out.set1 kk).done (.string s) (.int .i64 (kk : Int)) (.bool false)
              clear HB0 HG0 HT HH HNL S2
              rcases hle with hle | ⟨hle, hle2⟩
              all_goals
                rcases hway with hkl | ⟨hkl, HD⟩
                · go_wp2
                  refine bodyPost_ret (v := .tuple #[.agg #[.string s, .int .i64 (kk : Int), .bool false], .int .i64 (-(A : Int))]) (by simp [results, Tryz.results105, go_sem, *]) rfl ⟨HGD.out, HB.out⟩
                · go_wp2_with fail
                  refine Calls.mono (rdigit_is _ _ HD.out) ?_
                  rintro e V' ⟨rfl, hV'⟩
                  subst V'
                  go_wp2
                  refine bodyPost_ret (v := .tuple #[.agg #[.string s, .int .i64 (kk : Int), .bool false], .int .i64 (-(A : Int))]) (by simp [results, Tryz.results105, go_sem, *]) rfl ⟨HGD.out, HB.out⟩

set_option maxRecDepth 100000 in
set_option maxHeartbeats 8000000 in
theorem rnumber_p (s : ByteArray) (k : Nat) (w : World) (hk : k ≤ s.size) (hs : s.size ≤ 1000) (n : Nat) (hnb : nb s k = n) (hlt : n < s.size) (hc : ¬ (s[n].toNat : Int) = 45) : Calls Tryz.prog 105 #[.agg #[.string s, .int .i64 (k : Int), .bool false]] w fun e w' => RdV e s (rNumber (dr s k)) (.int .i64 (nmV (rNumber (dr s k)))) ∧ Below w.heap.size w w' := by
  have HS : Hid (Sp w _ s k false) := Sp.init w s k false
  have HBL : Hid _ := fun W => rblanks_f s k W hk hs
  have hnd := nb_dr s k
  have hnl := nb_le s k
  rw [hnb] at hnd hnl HBL
  have HN : Hid (dr s n = (dr s k).dropWhile isBlank) := hnd
  clear hnd hnb
  go_enter Tryz.func105, Tryz.ntmps105
  go_wp2_with fail
  refine Calls.mono (HBL.out _) ?_
  rintro e W1 ⟨rfl, b1⟩
  have S1 : Hid (Sp w W1 s k false) := HS.out.below b1
  obtain ⟨c0, c1, c2, cf, cl, d0, d1, d2, df, dl⟩ := S1.out.cells
  clear b1 HS HBL
  go_upto_region 2 with fail
  obtain ⟨V, hV⟩ : ∃ V, V = ((W1.setCell ⟨w.heap.size, 0, none⟩ (.string s)).setCell ⟨w.heap.size, 1, none⟩ (.int .i64 (n : Int))).setCell ⟨w.heap.size, 2, none⟩ (.bool false) := ⟨_, rfl⟩
  rw [← hV]
  have S2 : Hid (Sp w V s n false) := by rw [Hid, hV]; exact S1.out.set3 n false
  clear c0 c1 c2 cf cl d0 d1 d2 df dl hV S1
  obtain ⟨c0, c1, c2, cf, cl, d0, d1, d2, df, dl⟩ := S2.out.cells
  have HSG : Hid (nSign (dr s n) = [] ∧ nDigits (dr s n) = (dr s n).takeWhile isDigit ∧ nRest (dr s n) = (dr s n).dropWhile isDigit) := sgn_no s n hlt (by omega)
  have hil : n ≤ s.size := hnl
  have hb1 : ((s[n].toNat : Int) == 45) = false := by simpa using hc
  have HB0 : Hid (nBad (dr s n) → RdV (.returned (.tuple #[.agg #[.string s, .int .i64 (n : Int), .bool true], .int .i64 0])) s (rNumber (dr s k)) (.int .i64 (nmV (rNumber (dr s k))))) := fun h => nm_bad s k n HN.out hnl (fun _ => h)
  have HG0 : Hid (∀ (kk : Nat) (v : Int), ¬ nBad (dr s n) → nRest (dr s n) = dr s kk → kk ≤ s.size → nVal (dr s n) = v → RdV (.returned (.tuple #[.agg #[.string s, .int .i64 (kk : Int), .bool false], .int .i64 v])) s (rNumber (dr s k)) (.int .i64 (nmV (rNumber (dr s k))))) := fun kk v h1 h2 h3 h4 => nm_good s k n kk v HN.out hlt h1 h2 h3 h4
  go_wp2_with fail
  go_loopg [6, 7] 11 (fun kx a b wr => ∃ j kk A : Nat, a = .int .i64 (A : Int) ∧ b = .int .i64 (kk : Int) ∧ j ≤ 11 ∧ kk ≤ s.size ∧ kx = 11 - j ∧ V = wr ∧ A < 100000000000 ∧ Hid (kk = n + j ∧ A = dv ((dr s n).take j) ∧ ∀ c ∈ (dr s n).take j, isDigit c = true))
  case atStart => exact ⟨0, n, 0, rfl, rfl, by omega, hil, rfl, rfl, by omega, (⟨by omega, by simp [dv, dva], by simp⟩ : _ ∧ _ ∧ _)⟩
  case round =>
    obtain ⟨j, kk, A, rfl, rfl, hj, hkk, rfl, rfl, hA, J⟩ := hrel
    have hsub : (kk : Int) - (n : Int) = (j : Int) := by have := J.out.1; omega
    by_cases hgo : ∃ h : kk < s.size, isDigit s[kk] = true ∧ j < 11
    · obtain ⟨hkl, hdg, hj11⟩ := hgo
      have HD : Hid (isDigit s[kk] = true) := hdg
      have hcc : (48 : Int) ≤ (s[kk].toNat : Int) ∧ (s[kk].toNat : Int) ≤ 57 := by unfold isDigit at hdg; simp at hdg; omega
      obtain ⟨hc1, hc2⟩ := hcc
      have J2 : Hid (kk + 1 = n + (j + 1) ∧ 10 * A + (s[kk].toNat - 48) = dv ((dr s n).take (j + 1)) ∧ (∀ c ∈ (dr s n).take (j + 1), isDigit c = true) ∧ 10 * A + (s[kk].toNat - 48) < 100000000000) := by
        obtain ⟨q1, q2, q3⟩ := J.out
        subst q1
        have e := take_dig s n j hkl
        have hall : ∀ c ∈ (dr s n).take (j + 1), isDigit c = true := by
          rw [e]; intro c hc
          rcases List.mem_append.1 hc with h | h
          · exact q3 c h
          · rw [List.mem_singleton.1 h]; exact HD.out
        have ed : 10 * A + (s[n + j].toNat - 48) = dv ((dr s n).take (j + 1)) := by rw [e, dv_snoc, ← q2]
        refine ⟨by omega, ed, hall, ?_⟩
        rw [ed]
        exact dv_bd _ hall (by rw [List.length_take]; omega)
      clear hdg
      go_wp2_with fail
      refine Calls.mono (rdigit_is _ _ HD.out) ?_
      rintro e V' ⟨rfl, hV'⟩
      subst V'

      go_wp2
      go_roundg (11 - (j + 1))
      case measure => omega
      case rel => exact ⟨j + 1, kk + 1, 10 * A + (s[kk].toNat - 48), int_eq (by omega), by go_num, by omega, by omega, rfl, rfl, J2.out.2.2.2, (⟨J2.out.1, J2.out.2.1, J2.out.2.2.1⟩ : _ ∧ _ ∧ _)⟩
    · by_cases h11 : j = 11
      · have hbad : nBad (dr s n) := by
          obtain ⟨q1, q2, q3⟩ := J.out
          have := dig_many s n j q3 (by omega)
          refine Or.inr (Or.inl ?_)
          rw [HSG.out.2.1]; omega
        have HBAD : Hid _ := HB0.out hbad
        have e1 : ((kk : Int) == (n : Int)) = false := by simp; omega
        have e1' : ¬ (kk : Int) = (n : Int) := by omega
        have hj10 : (10 : Int) < (j : Int) := by omega
        have hj11' : ¬ (j : Int) < 11 := by omega
        clear hbad HB0 HG0 J
        by_cases hkl : kk < s.size
        · cases hdg : isDigit s[kk] with
          | true =>
            have HD : Hid (isDigit s[kk] = true) := hdg
            clear hdg hgo
            go_wp2_with fail
            refine Calls.mono (rdigit_is _ _ HD.out) ?_
            rintro e V' ⟨rfl, hV'⟩
            subst V'
            go_wp2_with fail
            refine Calls.mono (rbad_f s n n _) ?_
            rintro e W3 ⟨rfl, b3⟩
            have S3 : Hid (Sp w W3 s n false) := S2.out.below b3
            clear c0 c1 c2 cf cl d0 d1 d2 df dl b3 S2
            obtain ⟨c0, c1, c2, cf, cl, d0, d1, d2, df, dl⟩ := S3.out.cells
            have HB : Hid _ := S3.out.done (.string s) (.int .i64 (n : Int)) (.bool true)
            go_wp2
            exact bodyPost_ret (v := .tuple #[.agg #[.string s, .int .i64 (n : Int), .bool true], .int .i64 0]) (by simp [results, Tryz.results105, go_sem, *]) rfl ⟨HBAD.out, HB.out⟩
          | false =>
            have HD : Hid (isDigit s[kk] = false) := hdg
            clear hdg hgo
            go_wp2_with fail
            refine Calls.mono (rdigit_is _ _ HD.out) ?_
            rintro e V' ⟨rfl, hV'⟩
            subst V'
            go_wp2_with fail
            refine Calls.mono (rbad_f s n n _) ?_
            rintro e W3 ⟨rfl, b3⟩
            have S3 : Hid (Sp w W3 s n false) := S2.out.below b3
            clear c0 c1 c2 cf cl d0 d1 d2 df dl b3 S2
            obtain ⟨c0, c1, c2, cf, cl, d0, d1, d2, df, dl⟩ := S3.out.cells
            have HB : Hid _ := S3.out.done (.string s) (.int .i64 (n : Int)) (.bool true)
            go_wp2
            exact bodyPost_ret (v := .tuple #[.agg #[.string s, .int .i64 (n : Int), .bool true], .int .i64 0]) (by simp [results, Tryz.results105, go_sem, *]) rfl ⟨HBAD.out, HB.out⟩
        · clear hgo
          go_wp2_with fail
          refine Calls.mono (rbad_f s n n _) ?_
          rintro e W3 ⟨rfl, b3⟩
          have S3 : Hid (Sp w W3 s n false) := S2.out.below b3
          clear c0 c1 c2 cf cl d0 d1 d2 df dl b3 S2
          obtain ⟨c0, c1, c2, cf, cl, d0, d1, d2, df, dl⟩ := S3.out.cells
          have HB : Hid _ := S3.out.done (.string s) (.int .i64 (n : Int)) (.bool true)
          go_wp2
          exact bodyPost_ret (v := .tuple #[.agg #[.string s, .int .i64 (n : Int), .bool true], .int .i64 0]) (by simp [results, Tryz.results105, go_sem, *]) rfl ⟨HBAD.out, HB.out⟩
      · have hj11 : (j : Int) < 11 := by omega
        have hnd : ∀ hk : kk < s.size, isDigit s[kk] = false := fun hk => by
          cases h : isDigit s[kk] with
          | false => rfl
          | true => exact absurd ⟨hk, h, by omega⟩ hgo
        have HT : Hid (nDigits (dr s n) = (dr s n).take j ∧ nRest (dr s n) = dr s kk ∧ (nDigits (dr s n)).length = j ∧ dv (nDigits (dr s n)) = A) := by
          obtain ⟨q1, q2, q3⟩ := J.out
          have e := dig_stop s n j q3 (by rw [← q1]; exact nodig_dr s kk hnd)
          have e1 : nDigits (dr s n) = (dr s n).take j := by rw [HSG.out.2.1, e.1]
          refine ⟨e1, by rw [HSG.out.2.2, e.2, q1], ?_, by rw [e1, q2]⟩
          rw [e1, List.length_take, dr_len]; omega
        have hway : (¬ kk < s.size) ∨ (∃ h : kk < s.size, Hid (isDigit s[kk] = false)) := by
          by_cases hkl : kk < s.size
          · exact Or.inr ⟨hkl, hnd hkl⟩
          · exact Or.inl hkl
        have HKI : Hid (kk = n + j) := J.out.1
        clear hgo hnd J
        by_cases hj0 : j = 0
        · have HBAD : Hid _ := HB0.out (Or.inl (List.eq_nil_of_length_eq_zero (by rw [HT.out.2.2.1]; exact hj0)))
          have hkI : n = kk := by have := HKI.out; omega
          clear HB0 HG0 HT hsub HKI
          subst hkI
          rcases hway with hkl | ⟨hkl, HD⟩
          · exact absurd hlt hkl
          · go_wp2_with fail
            refine Calls.mono (rdigit_is _ _ HD.out) ?_
            rintro e V' ⟨rfl, hV'⟩
            subst V'
            go_wp2_with fail
            refine Calls.mono (rbad_f s n n _) ?_
            rintro e W3 ⟨rfl, b3⟩
            have S3 : Hid (Sp w W3 s n false) := S2.out.below b3
            clear c0 c1 c2 cf cl d0 d1 d2 df dl b3 S2
            obtain ⟨c0, c1, c2, cf, cl, d0, d1, d2, df, dl⟩ := S3.out.cells
            have HB : Hid _ := S3.out.done (.string s) (.int .i64 (n : Int)) (.bool true)
            go_wp2
            exact bodyPost_ret (v := .tuple #[.agg #[.string s, .int .i64 (n : Int), .bool true], .int .i64 0]) (by simp [results, Tryz.results105, go_sem, *]) rfl ⟨HBAD.out, HB.out⟩
        · have e1 : ((kk : Int) == (n : Int)) = false := by have := HKI.out; simp; omega
          have e1' : ¬ (kk : Int) = (n : Int) := by have := HKI.out; omega
          have hj10 : ¬ (10 : Int) < (j : Int) := by omega
          have hIl : n < s.size := by have := HKI.out; omega
          have HH : Hid (∃ r, nDigits (dr s n) = s[n] :: r) := by
            rw [Hid, HT.out.1]
            obtain ⟨j', rfl⟩ : ∃ j', j = j' + 1 := ⟨j - 1, by omega⟩
            exact ⟨(dr s (n + 1)).take j', by rw [dr_cons s n hIl]; rfl⟩
          have hs1 := hj0
          by_cases hlead : 1 < j ∧ (s[n].toNat : Int) = 48
          · obtain ⟨hl1, hl2⟩ := hlead
            have HBAD : Hid _ := HB0.out (Or.inr (Or.inr (Or.inl ⟨by rw [HT.out.2.2.1]; exact hl1, by obtain ⟨r, hr⟩ := HH.out; exact ⟨_, r, hr, by omega⟩⟩)))
            have hl1' : (1 : Int) < (j : Int) := by omega
            have e2 : ((s[n].toNat : Int) == 48) = true := by simpa using hl2
            clear HB0 HG0 HT HH
            rcases hway with hkl | ⟨hkl, HD⟩
            · go_wp2_with fail
              refine Calls.mono (rbad_f s n n _) ?_
              rintro e W3 ⟨rfl, b3⟩
              have S3 : Hid (Sp w W3 s n false) := S2.out.below b3
              clear c0 c1 c2 cf cl d0 d1 d2 df dl b3 S2
              obtain ⟨c0, c1, c2, cf, cl, d0, d1, d2, df, dl⟩ := S3.out.cells
              have HB : Hid _ := S3.out.done (.string s) (.int .i64 (n : Int)) (.bool true)
              go_wp2
              exact bodyPost_ret (v := .tuple #[.agg #[.string s, .int .i64 (n : Int), .bool true], .int .i64 0]) (by simp [results, Tryz.results105, go_sem, *]) rfl ⟨HBAD.out, HB.out⟩
            · go_wp2_with fail
              refine Calls.mono (rdigit_is _ _ HD.out) ?_
              rintro e V' ⟨rfl, hV'⟩
              subst V'
              go_wp2_with fail
              refine Calls.mono (rbad_f s n n _) ?_
              rintro e W3 ⟨rfl, b3⟩
              have S3 : Hid (Sp w W3 s n false) := S2.out.below b3
              clear c0 c1 c2 cf cl d0 d1 d2 df dl b3 S2
              obtain ⟨c0, c1, c2, cf, cl, d0, d1, d2, df, dl⟩ := S3.out.cells
              have HB : Hid _ := S3.out.done (.string s) (.int .i64 (n : Int)) (.bool true)
              go_wp2
              exact bodyPost_ret (v := .tuple #[.agg #[.string s, .int .i64 (n : Int), .bool true], .int .i64 0]) (by simp [results, Tryz.results105, go_sem, *]) rfl ⟨HBAD.out, HB.out⟩
          · have HNL : Hid (¬ (1 < (nDigits (dr s n)).length ∧ ∃ c r, nDigits (dr s n) = c :: r ∧ c.toNat = 48)) := by
              rintro ⟨h1, c, r, h2, h3⟩
              obtain ⟨r', hr'⟩ := HH.out
              rw [hr'] at h2
              injection h2 with h2 _
              rw [HT.out.2.2.1] at h1
              exact hlead ⟨h1, by rw [h2]; omega⟩
            have hle : (¬ (1 : Int) < (j : Int)) ∨ ((1 : Int) < (j : Int) ∧ ((s[n].toNat : Int) == 48) = false) := by
              by_cases h1 : 1 < j
              · refine Or.inr ⟨by omega, ?_⟩
                have : ¬ (s[n].toNat : Int) = 48 := fun h => hlead ⟨h1, h⟩
                simpa using this
              · exact Or.inl (by omega)
            clear hlead
            have HGD : Hid _ := HG0.out kk (A : Int) (fun hb => by
              rcases hb with h | h | h | h
              · have := HT.out.2.2.1; rw [h] at this; simp at this; omega
              · rw [HT.out.2.2.1] at h; omega
              · exact HNL.out h
              · exact h.1 HSG.out.1) HT.out.2.1 hkk (by unfold nVal; rw [HSG.out.1, HT.out.2.2.2]; rfl)
            have HB : Hid _ := (S2.out.set1 kk).done (.string s) (.int .i64 (kk : Int)) (.bool false)
            clear HB0 HG0 HT HH HNL S2
            rcases hle with hle | ⟨hle, hle2⟩
            all_goals
              rcases hway with hkl | ⟨hkl, HD⟩
              · go_wp2
                refine bodyPost_ret (v := .tuple #[.agg #[.string s, .int .i64 (kk : Int), .bool false], .int .i64 (A : Int)]) (by simp [results, Tryz.results105, go_sem, *]) rfl ⟨HGD.out, HB.out⟩
              · go_wp2_with fail
                refine Calls.mono (rdigit_is _ _ HD.out) ?_
                rintro e V' ⟨rfl, hV'⟩
                subst V'
                go_wp2
                refine bodyPost_ret (v := .tuple #[.agg #[.string s, .int .i64 (kk : Int), .bool false], .int .i64 (A : Int)]) (by simp [results, Tryz.results105, go_sem, *]) rfl ⟨HGD.out, HB.out⟩

theorem rnumber_f (s : ByteArray) (k : Nat) (w : World) (hk : k ≤ s.size) (hs : s.size ≤ 1000) : Calls Tryz.prog 105 #[.agg #[.string s, .int .i64 (k : Int), .bool false]] w fun e w' => RdV e s (rNumber (dr s k)) (.int .i64 (nmV (rNumber (dr s k)))) ∧ Below w.heap.size w w' := by
  by_cases hlt : nb s k < s.size
  · by_cases hc : (s[nb s k].toNat : Int) = 45
    · exact rnumber_m s k w hk hs _ rfl hlt hc
    · exact rnumber_p s k w hk hs _ rfl hlt hc
  · exact rnumber_e s k w hk hs _ rfl hlt
end Go.Proofs.YtkncpojijfeahaaGreatDoor
