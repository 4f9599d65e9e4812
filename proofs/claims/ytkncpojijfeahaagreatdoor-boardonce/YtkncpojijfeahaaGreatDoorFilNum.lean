/- The reader of package filter: number. -/
import Derived.Test.YtkncpojijfeahaaGreatDoorFilMark2
namespace Go.Proofs.YtkncpojijfeahaaGreatDoor
open Go.ChangeShapes Go.WideShapes Go.ChangeAt Go.RowKit
set_option linter.unusedVariables false

theorem tw_go (q : UInt8 → Bool) (s : ByteArray) (b j : Nat) (hb : b ≤ j) (h : j < s.size) (hc : q s[j] = true) (I1 : (dr s b).takeWhile q = (dr s b).take (j - b) ++ (dr s j).takeWhile q) (I2 : (dr s b).dropWhile q = (dr s j).dropWhile q) :
    (dr s b).takeWhile q = (dr s b).take (j + 1 - b) ++ (dr s (j + 1)).takeWhile q ∧ (dr s b).dropWhile q = (dr s (j + 1)).dropWhile q := by
  rw [dr_cons s j h] at I1 I2
  rw [List.takeWhile_cons, if_pos hc] at I1
  rw [List.dropWhile_cons, if_pos hc] at I2
  refine ⟨?_, I2⟩
  rw [I1]
  have hl : j - b < (dr s b).length := by simp [dr]; omega
  have e : (dr s b).take (j + 1 - b) = (dr s b).take (j - b) ++ [s[j]] := by
    rw [show j + 1 - b = (j - b) + 1 by omega, List.take_succ_eq_append_getElem hl]
    congr 2
    simp [dr]
    congr 1; omega
  rw [e, List.append_assoc]; rfl
theorem tw_stop (q : UInt8 → Bool) (s : ByteArray) (b j : Nat) (hc : (dr s j).takeWhile q = []) (h0 : (dr s j).dropWhile q = dr s j) (I1 : (dr s b).takeWhile q = (dr s b).take (j - b) ++ (dr s j).takeWhile q) (I2 : (dr s b).dropWhile q = (dr s j).dropWhile q) :
    (dr s b).takeWhile q = (dr s b).take (j - b) ∧ (dr s b).dropWhile q = dr s j := by
  rw [hc, List.append_nil] at I1
  rw [h0] at I2
  exact ⟨I1, I2⟩
theorem atoi_bd {l : List UInt8} {v : Int} (h : Lib.atoiAll l = .ok v) : -9223372036854775808 ≤ v ∧ v ≤ 9223372036854775807 := by
  unfold Lib.atoiAll at h
  split at h
  · cases h
  · simp only at h
    split at h
    · cases h
    · cases h
    · split at h
      · cases h
      · split at h
        · cases h
        · rename_i u _ h1 h2
          have hv := Lib.NumEnd.ok.inj h
          rw [← hv]
          split
          · rename_i hn
            have : ¬ 9223372036854775808 < u := fun hh => h2 ⟨hn, hh⟩
            omega
          · rename_i hn
            have : ¬ 9223372036854775808 ≤ u := fun hh => h1 ⟨hn, hh⟩
            omega
def numV : Ps Int → Value
  | .ok v _ => .tuple #[.int .i64 v, .nilIface]
  | .fail e _ => .tuple #[.int .i64 0, ec e]
theorem grow_below (w : World) (k : Nat) (os : Array Obj) : Below w.heap.size w (Go.Sort.grow (w.drewN k) os) :=
  ⟨rfl, rfl, rfl, by simp [Go.Sort.grow], fun i hi => by simp [Go.Sort.grow, Array.getElem?_append, hi]⟩
/-- Where the digits of a number end. -/
structure NumAt (s : ByteArray) (b f j : Nat) : Prop where
  bf : b ≤ f
  fj : f ≤ j
  js : j ≤ s.size
  sg : f = b + (nSign (dr s b)).length
  dg : nDigits (dr s b) = (dr s f).take (j - f)
  rs : nRest (dr s b) = dr s j
theorem NumAt.len {s : ByteArray} {b f j : Nat} (h : NumAt s b f j) : (nDigits (dr s b)).length = j - f := by
  rw [h.dg, List.length_take, dr_len]; have := h.js; omega
theorem NumAt.sp {s : ByteArray} {b f j : Nat} (h : NumAt s b f j) : (s.extract b j).data.toList = nSign (dr s b) ++ nDigits (dr s b) := by
  rw [ext_ba s b j (Nat.le_trans h.bf h.fj) h.js, ba_list, h.dg]
  have e : nSign (dr s b) = (dr s b).take (f - b) := by
    have := h.sg
    cases hd : dr s b with
    | nil => simp [nSign]
    | cons c r =>
      rw [hd] at this
      unfold nSign at this ⊢
      simp only at this ⊢
      split
      · rename_i hc
        rw [if_pos hc] at this
        simp at this
        rw [this]; simp
      · rename_i hc
        rw [if_neg hc] at this
        simp at this
        rw [this]; simp
  rw [e]
  have hbf := h.bf; have hfj := h.fj
  rw [show (dr s b).take (j - b) = (dr s b).take ((f - b) + (j - f)) by congr 1; omega, List.take_add]
  congr 2
  simp [dr]; congr 1; omega

set_option maxHeartbeats 2000000 in
theorem number_any (p : Nat) (s : ByteArray) (k : Nat) (w0 w : World) (E : Env w0) (hB : Below w0.heap.size w0 w) (hp : w0.heap.size ≤ p) (h : Rd w p s k) (hs : s.size ≤ 1000) :
    Calls Tryz.prog 117 #[.pointer (some ⟨p, 0, none⟩)] w fun e w' => e = .returned (numV (rNumber (dr s k))) ∧ ∃ k', Rd w' p s k' ∧ dr s k' = (rNumber (dr s k)).left ∧ Kp w w' p := by
  have HE : Hid (Env w0 ∧ Below w0.heap.size w0 w ∧ w0.heap.size ≤ p) := ⟨E, hB, hp⟩
  have hpw := h.lt
  clear E hB
  go_enter Tryz.func117, Tryz.ntmps117
  go_wp2_with fail
  refine (begin_any p s k _ h hs).mono ?_
  rintro e w1 ⟨rfl, b, hR, hb, hK⟩
  cases hres : rBegin (dr s k) with
  | fail ee r =>
    obtain ⟨h1, rfl, rfl⟩ := rBegin_fail hres
    rw [hres] at hb
    have HW : Hid (rNumber (dr s k) = .fail true []) := by
      show rNumber (dr s k) = .fail true []
      unfold rNumber; rw [h1]
    have HR : Hid (Rd w1 p s b ∧ dr s b = [] ∧ Kp w w1 p) := ⟨hR, hb, hK⟩
    clear h1 hb hR hK hres
    simp only [errV, ec]
    go_wp2
    go_ret2
    rw [HW.out]
    exact ⟨rfl, b, HR.out.1, HR.out.2.1, HR.out.2.2⟩
  | ok u r =>
    obtain ⟨h1, h2⟩ := rBegin_ok hres
    rw [hres] at hb
    have hb' : dr s b = r := hb
    rw [← hb'] at h1 h2
    have hlt := lt_of_dr h2
    have HD : Hid ((dr s k).dropWhile isBlank = dr s b) := h1
    have HR : Hid (Rd w1 p s b ∧ Kp w w1 p) := ⟨hR, hK⟩
    have x0 := hR.c0
    have x1 := hR.c1
    have xl := hR.lt
    have xf := hR.fz 1
    clear h1 h2 hb hb' hR hK hres
    simp only [errV]
    by_cases hsg : (s[b].toNat : Int) = 45
    · have hsgn : nSign (dr s b) = [s[b]] := by
        rw [dr_cons s b hlt]; unfold nSign; simp only; rw [if_pos (by omega)]
      have HSG : Hid (nSign (dr s b) = [s[b]] ∧ nDigits (dr s b) = (dr s (b + 1)).takeWhile isDigit ∧ nRest (dr s b) = (dr s (b + 1)).dropWhile isDigit) := by
        refine ⟨hsgn, ?_, ?_⟩
        · unfold nDigits; rw [hsgn]; simp [dr]
        · unfold nRest; rw [hsgn]; simp [dr]
      clear hsgn
      go_wp2_with fail
      go_loopg [6] (s.size - (b + 1)) (fun kx s6 wr => ∃ j : Nat, s6 = .int .i64 (j : Int) ∧ (b + 1) ≤ j ∧ j ≤ s.size ∧ kx = s.size - j ∧ wr = w1 ∧ Hid ((dr s (b + 1)).takeWhile isDigit = (dr s (b + 1)).take (j - (b + 1)) ++ (dr s j).takeWhile isDigit ∧ (dr s (b + 1)).dropWhile isDigit = (dr s j).dropWhile isDigit))
      case atStart => exact ⟨(b + 1), by first | rfl | go_num, Nat.le_refl _, by omega, rfl, rfl, (⟨by simp, rfl⟩ : _ ∧ _)⟩
      case round =>
        obtain ⟨j, rfl, hfj, hj, hkx, hwr, I⟩ := hrel
        subst hwr
        have go : ∀ (_ : (dr s j).takeWhile isDigit = []) (_ : (dr s j).dropWhile isDigit = dr s j), NumAt s b (b + 1) j := fun q1 q2 => by
          obtain ⟨e1, e2⟩ := tw_stop isDigit s (b + 1) j q1 q2 I.out.1 I.out.2
          exact ⟨by omega, hfj, hj, by rw [HSG.out.1]; simp, HSG.out.2.1.trans e1, HSG.out.2.2.trans e2⟩
        have HGo : Hid _ := go
        clear go
        have key : (¬ j < s.size ∨ ∃ hh : j < s.size, isDigit s[j] = false) ∨ ∃ hh : j < s.size, isDigit s[j] = true := by
          by_cases hh : j < s.size
          · cases hd : isDigit s[j] with
            | true => exact .inr ⟨hh, hd⟩
            | false => exact .inl (.inr ⟨hh, hd⟩)
          · exact .inl (.inl hh)
        rcases key with key | ⟨hlj, hd⟩
        · have NA : Hid (NumAt s b (b + 1) j) := by
            rcases key with hh | ⟨hh, hd⟩
            · exact HGo.out (by rw [dr_end s j (by omega)]; rfl) (by rw [dr_end s j (by omega)]; rfl)
            · exact HGo.out (by rw [dr_cons s j hh, List.takeWhile_cons, if_neg (by simp [hd])]) (by rw [dr_cons s j hh, List.dropWhile_cons, if_neg (by simp [hd])])
          have hlenE : (nDigits (dr s b)).length = j - (b + 1) := NA.out.len
          have SP : Hid ((s.extract b j).data.toList = nSign (dr s b) ++ nDigits (dr s b)) := NA.out.sp
          obtain ⟨sp, hsp⟩ : ∃ sp, sp = s.extract b j := ⟨_, rfl⟩
          have hspz : sp.size ≤ 1000 := by rw [hsp]; simp; omega
          rw [← hsp] at SP
          have HSPE : Hid (sp = s.extract b j) := hsp
          have hbj : (b : Int) ≤ (j : Int) := by omega
          have hjs : (j : Int) ≤ (s.size : Int) := by omega
          have BD : ∀ nq, Below w0.heap.size w0 (wr.drewN nq) := fun nq => below_drewN (HR.out.2.below HE.out.2.1 HE.out.2.2 HE.out.2.1.size) nq
          have HBD : Hid _ := BD
          clear BD hsp
          rcases key with hh | ⟨hh, hd⟩
          all_goals
            try have HDg : Hid (isDigit s[j] = false) := hd
            try clear hd
            go_wp2_with (go_at_call 114; refine (digit_is _ _ HDg.out).mono ?_; rintro e w' ⟨rfl, hw'⟩; subst w')
            go_quiet (fail)
            go_wp2_with fail
            rw [← HSPE.out]
            cases hA : Lib.atoiAll (nSign (dr s b) ++ nDigits (dr s b)) with
            | ok v =>
              have HA : Hid (Lib.atoiAll (nSign (dr s b) ++ nDigits (dr s b)) = .ok v) := hA
              clear hA
              refine (Tryz.strconv_Atoi_ok sp (by omega) v (by rw [SP.out]; exact HA.out) _).mono ?_
              rintro e w3 ⟨rfl, hw3⟩
              have b3 : Below (wr.drewN nq).heap.size (wr.drewN nq) w3 := by
                rcases hw3 with rfl | ⟨t, rfl⟩
                · exact Below.refl _ _
                · exact Lib.bytesWorld_below _ _ _
              have hR3 : Rd w3 p s b := (HR.out.1.drewN nq).below b3
              have HK3 : Hid (Rd w3 p s b ∧ Kp w w3 p ∧ Below w0.heap.size w0 w3) := ⟨hR3, (HR.out.2.drewN nq).trans (Kp.ofBelow b3), (HBD.out nq).trans (b3.mono (HBD.out nq).size)⟩
              clear hw3 b3 hR3
              by_cases hten : (j : Int) - ((b : Int) + 1) ≤ 10
              · have bd := atoi_bd HA.out
                go_wp2_with fail
                refine (Tryz.strconv_Itoa v bd.1 bd.2 _ (HE.out.1.below HK3.out.2.2 HE.out.1.lt).tab).mono ?_
                rintro e w4 ⟨rfl, n4, os4, hw4⟩
                have b4 : Below w3.heap.size w3 w4 := by rw [hw4]; exact grow_below _ _ _
                have hR4 : Rd w4 p s b := HK3.out.1.below b4
                have y1 := hR4.c1
                have yf := hR4.fz 1
                have yl := hR4.lt
                have HK4 : Hid (Rd w4 p s b ∧ Kp w w4 p) := ⟨hR4, HK3.out.2.1.trans (Kp.ofBelow b4)⟩
                clear hw4 b4 hR4
                by_cases heq : Lib.itoa v = nSign (dr s b) ++ nDigits (dr s b)
                · have HW : Hid (rNumber (dr s k) = .ok v (dr s j)) := by
                    show rNumber (dr s k) = .ok v (dr s j)
                    have hA' := HA.out
                    have h10 : (nDigits (dr s b)).length ≤ 10 := by omega
                    have hr := NA.out.rs
                    rw [dr_cons s b hlt] at hA' h10 heq hr
                    unfold rNumber; rw [HD.out, dr_cons s b hlt]; simp only [hA']
                    rw [if_pos ⟨h10, heq⟩, hr]
                  have e1 : (⟨(Lib.itoa v).toArray⟩ : ByteArray).toList = sp.toList := by
                    rw [ByteArray.toList_eq, ByteArray.toList_eq, SP.out, heq]
                  clear heq
                  generalize (⟨(Lib.itoa v).toArray⟩ : ByteArray) = IT at e1
                  go_wp2
                  go_ret2
                  rw [HW.out]
                  exact ⟨rfl, j, HK4.out.1.set j hj, rfl, HK4.out.2.set _⟩
                · have HW : Hid (rNumber (dr s k) = .fail false (dr s b)) := by
                    show rNumber (dr s k) = .fail false (dr s b)
                    have hA' := HA.out
                    rw [dr_cons s b hlt] at hA' heq
                    unfold rNumber; rw [HD.out, dr_cons s b hlt]; simp only [hA']
                    rw [if_neg (fun hh => heq hh.2)]
                  have e1 : ¬ (⟨(Lib.itoa v).toArray⟩ : ByteArray).toList = sp.toList := by
                    rw [ByteArray.toList_eq, ByteArray.toList_eq, SP.out]; simpa using heq
                  have e2 : ((⟨(Lib.itoa v).toArray⟩ : ByteArray).toList == sp.toList) = false := by simpa using e1
                  clear heq
                  generalize (⟨(Lib.itoa v).toArray⟩ : ByteArray) = IT at e1 e2
                  go_wp2
                  go_ret2
                  rw [HW.out]
                  exact ⟨rfl, b, HK4.out.1, rfl, HK4.out.2⟩
              · have HW : Hid (rNumber (dr s k) = .fail false (dr s b)) := by
                  show rNumber (dr s k) = .fail false (dr s b)
                  have hA' := HA.out
                  have h10 : ¬ (nDigits (dr s b)).length ≤ 10 := by omega
                  rw [dr_cons s b hlt] at hA' h10
                  unfold rNumber; rw [HD.out, dr_cons s b hlt]; simp only [hA']
                  rw [if_neg (fun hh => h10 hh.1)]
                go_wp2
                go_ret2
                rw [HW.out]
                exact ⟨rfl, b, HK3.out.1, rfl, HK3.out.2.1⟩
            | «syntax» =>
              have HW : Hid (rNumber (dr s k) = .fail false (dr s b)) := by
                show rNumber (dr s k) = .fail false (dr s b)
                have hA' := hA
                rw [dr_cons s b hlt] at hA'
                unfold rNumber; rw [HD.out, dr_cons s b hlt]; simp only [hA']
              have HA : Hid (Lib.atoiAll (nSign (dr s b) ++ nDigits (dr s b)) = .«syntax») := hA
              clear hA
              have E3 := HE.out.1.below (HBD.out nq) HE.out.1.lt
              obtain ⟨te, pe, hsyn⟩ := E3.syn
              refine (Tryz.strconv_Atoi_syntax sp (by omega) (by rw [SP.out]; exact HA.out) _ _ hsyn (.inr ⟨te, pe, rfl⟩)).mono ?_
              rintro e w3 ⟨N3, rfl, _, _, b3⟩
              have HK3 : Hid (Rd w3 p s b ∧ Kp w w3 p) := ⟨(HR.out.1.drewN nq).below b3, (HR.out.2.drewN nq).trans (Kp.ofBelow b3)⟩
              clear b3 hsyn E3
              go_wp2
              go_ret2
              rw [HW.out]
              exact ⟨rfl, b, HK3.out.1, rfl, HK3.out.2⟩
            | range =>
              have HW : Hid (rNumber (dr s k) = .fail false (dr s b)) := by
                show rNumber (dr s k) = .fail false (dr s b)
                have hA' := hA
                rw [dr_cons s b hlt] at hA'
                unfold rNumber; rw [HD.out, dr_cons s b hlt]; simp only [hA']
              have HA : Hid (Lib.atoiAll (nSign (dr s b) ++ nDigits (dr s b)) = .range) := hA
              clear hA
              have E3 := HE.out.1.below (HBD.out nq) HE.out.1.lt
              obtain ⟨te, pe, hsyn⟩ := E3.ran
              refine (Tryz.strconv_Atoi_range sp (by omega) (by rw [SP.out]; exact HA.out) _ _ hsyn (.inr ⟨te, pe, rfl⟩)).mono ?_
              rintro e w3 ⟨N3, rfl, _, _, b3⟩
              have HK3 : Hid (Rd w3 p s b ∧ Kp w w3 p) := ⟨(HR.out.1.drewN nq).below b3, (HR.out.2.drewN nq).trans (Kp.ofBelow b3)⟩
              clear b3 hsyn E3
              go_wp2
              go_ret2
              rw [HW.out]
              exact ⟨rfl, b, HK3.out.1, rfl, HK3.out.2⟩
        · have I2 : Hid ((dr s (b + 1)).takeWhile isDigit = (dr s (b + 1)).take (j + 1 - (b + 1)) ++ (dr s (j + 1)).takeWhile isDigit ∧ (dr s (b + 1)).dropWhile isDigit = (dr s (j + 1)).dropWhile isDigit) := tw_go isDigit s (b + 1) j hfj hlj hd I.out.1 I.out.2
          have HDg : Hid (isDigit s[j] = true) := hd
          clear hd
          go_wp2_with (go_at_call 114; refine (digit_is _ _ HDg.out).mono ?_; rintro e w' ⟨rfl, hw'⟩; subst w')
          go_roundg (s.size - (j + 1))
          case measure => omega
          case rel => exact ⟨j + 1, by go_num, by omega, by omega, rfl, rfl, I2⟩
    · have hsb : ((s[b].toNat : Int) == 45) = false := by simpa using hsg
      have hsgn : nSign (dr s b) = [] := by
        rw [dr_cons s b hlt]; unfold nSign; simp only; rw [if_neg (by omega)]
      have HSG : Hid (nSign (dr s b) = [] ∧ nDigits (dr s b) = (dr s b).takeWhile isDigit ∧ nRest (dr s b) = (dr s b).dropWhile isDigit) := by
        refine ⟨hsgn, ?_, ?_⟩
        · unfold nDigits; rw [hsgn]; simp [dr]
        · unfold nRest; rw [hsgn]; simp [dr]
      clear hsgn
      go_wp2_with fail
      go_loopg [6] (s.size - b) (fun kx s6 wr => ∃ j : Nat, s6 = .int .i64 (j : Int) ∧ b ≤ j ∧ j ≤ s.size ∧ kx = s.size - j ∧ wr = w1 ∧ Hid ((dr s b).takeWhile isDigit = (dr s b).take (j - b) ++ (dr s j).takeWhile isDigit ∧ (dr s b).dropWhile isDigit = (dr s j).dropWhile isDigit))
      case atStart => exact ⟨b, by first | rfl | go_num, Nat.le_refl _, by omega, rfl, rfl, (⟨by simp, rfl⟩ : _ ∧ _)⟩
      case round =>
        obtain ⟨j, rfl, hfj, hj, hkx, hwr, I⟩ := hrel
        subst hwr
        have go : ∀ (_ : (dr s j).takeWhile isDigit = []) (_ : (dr s j).dropWhile isDigit = dr s j), NumAt s b b j := fun q1 q2 => by
          obtain ⟨e1, e2⟩ := tw_stop isDigit s b j q1 q2 I.out.1 I.out.2
          exact ⟨by omega, hfj, hj, by rw [HSG.out.1]; simp, HSG.out.2.1.trans e1, HSG.out.2.2.trans e2⟩
        have HGo : Hid _ := go
        clear go
        have key : (¬ j < s.size ∨ ∃ hh : j < s.size, isDigit s[j] = false) ∨ ∃ hh : j < s.size, isDigit s[j] = true := by
          by_cases hh : j < s.size
          · cases hd : isDigit s[j] with
            | true => exact .inr ⟨hh, hd⟩
            | false => exact .inl (.inr ⟨hh, hd⟩)
          · exact .inl (.inl hh)
        rcases key with key | ⟨hlj, hd⟩
        · have NA : Hid (NumAt s b b j) := by
            rcases key with hh | ⟨hh, hd⟩
            · exact HGo.out (by rw [dr_end s j (by omega)]; rfl) (by rw [dr_end s j (by omega)]; rfl)
            · exact HGo.out (by rw [dr_cons s j hh, List.takeWhile_cons, if_neg (by simp [hd])]) (by rw [dr_cons s j hh, List.dropWhile_cons, if_neg (by simp [hd])])
          have hlenE : (nDigits (dr s b)).length = j - b := NA.out.len
          have SP : Hid ((s.extract b j).data.toList = nSign (dr s b) ++ nDigits (dr s b)) := NA.out.sp
          obtain ⟨sp, hsp⟩ : ∃ sp, sp = s.extract b j := ⟨_, rfl⟩
          have hspz : sp.size ≤ 1000 := by rw [hsp]; simp; omega
          rw [← hsp] at SP
          have HSPE : Hid (sp = s.extract b j) := hsp
          have hbj : (b : Int) ≤ (j : Int) := by omega
          have hjs : (j : Int) ≤ (s.size : Int) := by omega
          have BD : ∀ nq, Below w0.heap.size w0 (wr.drewN nq) := fun nq => below_drewN (HR.out.2.below HE.out.2.1 HE.out.2.2 HE.out.2.1.size) nq
          have HBD : Hid _ := BD
          clear BD hsp
          rcases key with hh | ⟨hh, hd⟩
          all_goals
            try have HDg : Hid (isDigit s[j] = false) := hd
            try clear hd
            go_wp2_with (go_at_call 114; refine (digit_is _ _ HDg.out).mono ?_; rintro e w' ⟨rfl, hw'⟩; subst w')
            go_quiet (fail)
            go_wp2_with fail
            rw [← HSPE.out]
            cases hA : Lib.atoiAll (nSign (dr s b) ++ nDigits (dr s b)) with
            | ok v =>
              have HA : Hid (Lib.atoiAll (nSign (dr s b) ++ nDigits (dr s b)) = .ok v) := hA
              clear hA
              refine (Tryz.strconv_Atoi_ok sp (by omega) v (by rw [SP.out]; exact HA.out) _).mono ?_
              rintro e w3 ⟨rfl, hw3⟩
              have b3 : Below (wr.drewN nq).heap.size (wr.drewN nq) w3 := by
                rcases hw3 with rfl | ⟨t, rfl⟩
                · exact Below.refl _ _
                · exact Lib.bytesWorld_below _ _ _
              have hR3 : Rd w3 p s b := (HR.out.1.drewN nq).below b3
              have HK3 : Hid (Rd w3 p s b ∧ Kp w w3 p ∧ Below w0.heap.size w0 w3) := ⟨hR3, (HR.out.2.drewN nq).trans (Kp.ofBelow b3), (HBD.out nq).trans (b3.mono (HBD.out nq).size)⟩
              clear hw3 b3 hR3
              by_cases hten : (j : Int) - (b : Int) ≤ 10
              · have bd := atoi_bd HA.out
                go_wp2_with fail
                refine (Tryz.strconv_Itoa v bd.1 bd.2 _ (HE.out.1.below HK3.out.2.2 HE.out.1.lt).tab).mono ?_
                rintro e w4 ⟨rfl, n4, os4, hw4⟩
                have b4 : Below w3.heap.size w3 w4 := by rw [hw4]; exact grow_below _ _ _
                have hR4 : Rd w4 p s b := HK3.out.1.below b4
                have y1 := hR4.c1
                have yf := hR4.fz 1
                have yl := hR4.lt
                have HK4 : Hid (Rd w4 p s b ∧ Kp w w4 p) := ⟨hR4, HK3.out.2.1.trans (Kp.ofBelow b4)⟩
                clear hw4 b4 hR4
                by_cases heq : Lib.itoa v = nSign (dr s b) ++ nDigits (dr s b)
                · have HW : Hid (rNumber (dr s k) = .ok v (dr s j)) := by
                    show rNumber (dr s k) = .ok v (dr s j)
                    have hA' := HA.out
                    have h10 : (nDigits (dr s b)).length ≤ 10 := by omega
                    have hr := NA.out.rs
                    rw [dr_cons s b hlt] at hA' h10 heq hr
                    unfold rNumber; rw [HD.out, dr_cons s b hlt]; simp only [hA']
                    rw [if_pos ⟨h10, heq⟩, hr]
                  have e1 : (⟨(Lib.itoa v).toArray⟩ : ByteArray).toList = sp.toList := by
                    rw [ByteArray.toList_eq, ByteArray.toList_eq, SP.out, heq]
                  clear heq
                  generalize (⟨(Lib.itoa v).toArray⟩ : ByteArray) = IT at e1
                  go_wp2
                  go_ret2
                  rw [HW.out]
                  exact ⟨rfl, j, HK4.out.1.set j hj, rfl, HK4.out.2.set _⟩
                · have HW : Hid (rNumber (dr s k) = .fail false (dr s b)) := by
                    show rNumber (dr s k) = .fail false (dr s b)
                    have hA' := HA.out
                    rw [dr_cons s b hlt] at hA' heq
                    unfold rNumber; rw [HD.out, dr_cons s b hlt]; simp only [hA']
                    rw [if_neg (fun hh => heq hh.2)]
                  have e1 : ¬ (⟨(Lib.itoa v).toArray⟩ : ByteArray).toList = sp.toList := by
                    rw [ByteArray.toList_eq, ByteArray.toList_eq, SP.out]; simpa using heq
                  have e2 : ((⟨(Lib.itoa v).toArray⟩ : ByteArray).toList == sp.toList) = false := by simpa using e1
                  clear heq
                  generalize (⟨(Lib.itoa v).toArray⟩ : ByteArray) = IT at e1 e2
                  go_wp2
                  go_ret2
                  rw [HW.out]
                  exact ⟨rfl, b, HK4.out.1, rfl, HK4.out.2⟩
              · have HW : Hid (rNumber (dr s k) = .fail false (dr s b)) := by
                  show rNumber (dr s k) = .fail false (dr s b)
                  have hA' := HA.out
                  have h10 : ¬ (nDigits (dr s b)).length ≤ 10 := by omega
                  rw [dr_cons s b hlt] at hA' h10
                  unfold rNumber; rw [HD.out, dr_cons s b hlt]; simp only [hA']
                  rw [if_neg (fun hh => h10 hh.1)]
                go_wp2
                go_ret2
                rw [HW.out]
                exact ⟨rfl, b, HK3.out.1, rfl, HK3.out.2.1⟩
            | «syntax» =>
              have HW : Hid (rNumber (dr s k) = .fail false (dr s b)) := by
                show rNumber (dr s k) = .fail false (dr s b)
                have hA' := hA
                rw [dr_cons s b hlt] at hA'
                unfold rNumber; rw [HD.out, dr_cons s b hlt]; simp only [hA']
              have HA : Hid (Lib.atoiAll (nSign (dr s b) ++ nDigits (dr s b)) = .«syntax») := hA
              clear hA
              have E3 := HE.out.1.below (HBD.out nq) HE.out.1.lt
              obtain ⟨te, pe, hsyn⟩ := E3.syn
              refine (Tryz.strconv_Atoi_syntax sp (by omega) (by rw [SP.out]; exact HA.out) _ _ hsyn (.inr ⟨te, pe, rfl⟩)).mono ?_
              rintro e w3 ⟨N3, rfl, _, _, b3⟩
              have HK3 : Hid (Rd w3 p s b ∧ Kp w w3 p) := ⟨(HR.out.1.drewN nq).below b3, (HR.out.2.drewN nq).trans (Kp.ofBelow b3)⟩
              clear b3 hsyn E3
              go_wp2
              go_ret2
              rw [HW.out]
              exact ⟨rfl, b, HK3.out.1, rfl, HK3.out.2⟩
            | range =>
              have HW : Hid (rNumber (dr s k) = .fail false (dr s b)) := by
                show rNumber (dr s k) = .fail false (dr s b)
                have hA' := hA
                rw [dr_cons s b hlt] at hA'
                unfold rNumber; rw [HD.out, dr_cons s b hlt]; simp only [hA']
              have HA : Hid (Lib.atoiAll (nSign (dr s b) ++ nDigits (dr s b)) = .range) := hA
              clear hA
              have E3 := HE.out.1.below (HBD.out nq) HE.out.1.lt
              obtain ⟨te, pe, hsyn⟩ := E3.ran
              refine (Tryz.strconv_Atoi_range sp (by omega) (by rw [SP.out]; exact HA.out) _ _ hsyn (.inr ⟨te, pe, rfl⟩)).mono ?_
              rintro e w3 ⟨N3, rfl, _, _, b3⟩
              have HK3 : Hid (Rd w3 p s b ∧ Kp w w3 p) := ⟨(HR.out.1.drewN nq).below b3, (HR.out.2.drewN nq).trans (Kp.ofBelow b3)⟩
              clear b3 hsyn E3
              go_wp2
              go_ret2
              rw [HW.out]
              exact ⟨rfl, b, HK3.out.1, rfl, HK3.out.2⟩
        · have I2 : Hid ((dr s b).takeWhile isDigit = (dr s b).take (j + 1 - b) ++ (dr s (j + 1)).takeWhile isDigit ∧ (dr s b).dropWhile isDigit = (dr s (j + 1)).dropWhile isDigit) := tw_go isDigit s b j hfj hlj hd I.out.1 I.out.2
          have HDg : Hid (isDigit s[j] = true) := hd
          clear hd
          go_wp2_with (go_at_call 114; refine (digit_is _ _ HDg.out).mono ?_; rintro e w' ⟨rfl, hw'⟩; subst w')
          go_roundg (s.size - (j + 1))
          case measure => omega
          case rel => exact ⟨j + 1, by go_num, by omega, by omega, rfl, rfl, I2⟩
end Go.Proofs.YtkncpojijfeahaaGreatDoor
