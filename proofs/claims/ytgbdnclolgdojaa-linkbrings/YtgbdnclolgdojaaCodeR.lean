/- What code.Reader does: what it reads, how far it comes, its error. -/
import Derived.Test.YtgbdnclolgdojaaCodeW
import Derived.Deep.QuietTactic
import Derived.BigQuiet
import Derived.Deep.RegionWith
namespace Go.Proofs.Ytgbdnclolgdojaa
open Go.ChangeShapes Go.WideShapes Go.ChangeAt Go.RowKit
set_option linter.unusedVariables false

/-- A reader at block q: its text, how far it is, its code. -/
def Rd (w : World) (q : Nat) (s : ByteArray) (at' c : Nat) : Prop :=
  w.heap[q]? = some (.cells #[.string s, .int .i64 at', .int .i64 c] 84 (0, 0))

/-- What a call on the reader at q leaves as it was: all but q's own block; no block is added. -/
structure Same (w w' : World) (q : Nat) : Prop where
  os : w'.os = w.os
  tape : w'.tape = w.tape
  output : w'.output = w.output
  size : w'.heap.size = w.heap.size
  block : ∀ k, k ≠ q → w'.heap[k]? = w.heap[k]?

theorem Same.refl (w : World) (q : Nat) : Same w w q := ⟨rfl, rfl, rfl, rfl, fun _ _ => rfl⟩
theorem Same.trans {a b c : World} {q : Nat} (h : Same a b q) (k : Same b c q) : Same a c q :=
  ⟨k.os.trans h.os, k.tape.trans h.tape, k.output.trans h.output, k.size.trans h.size, fun i hi => (k.block i hi).trans (h.block i hi)⟩
theorem Same.drewN (w : World) (q n : Nat) : Same w (w.drewN n) q := ⟨rfl, rfl, rfl, rfl, fun _ _ => rfl⟩
theorem Same.setCell (w : World) (q o : Nat) (v : Value) : Same w (w.setCell ⟨q, o, none⟩ v) q :=
  ⟨rfl, rfl, rfl, by simp [World.setCell], fun k hk => Below.heap_setCell _ _ _ _ (by simpa using hk)⟩

section
variable {w : World} {q : Nat} {s : ByteArray} {at' c : Nat}
theorem Rd.lt (h : Rd w q s at' c) : q < w.heap.size := lt_of_block h
theorem Rd.text (h : Rd w q s at' c) : w.cell? ⟨q, 0, none⟩ = some (.string s) := by unfold Rd at h; simp [World.cell?, h]
theorem Rd.at (h : Rd w q s at' c) : w.cell? ⟨q, 1, none⟩ = some (.int .i64 at') := by unfold Rd at h; simp [World.cell?, h]
theorem Rd.code (h : Rd w q s at' c) : w.cell? ⟨q, 2, none⟩ = some (.int .i64 c) := by unfold Rd at h; simp [World.cell?, h]
theorem Rd.free (h : Rd w q s at' c) (o : Nat) : w.frozen? ⟨q, o, none⟩ = false := by unfold Rd at h; simp [World.frozen?, h]
theorem Rd.setAt (h : Rd w q s at' c) (x : Nat) : Rd (w.setCell ⟨q, 1, none⟩ (.int .i64 x)) q s x c := by
  have hlt := h.lt
  have h' : w.heap[q] = .cells #[.string s, .int .i64 at', .int .i64 c] 84 (0, 0) := by
    unfold Rd at h; simpa [Array.getElem?_eq_getElem hlt] using h
  show (w.heap.modify q _)[q]? = _
  rw [Array.getElem?_eq_getElem (by simpa using hlt), Array.getElem_modify_self, h']
  rfl
theorem Rd.setCode (h : Rd w q s at' c) (x : Nat) : Rd (w.setCell ⟨q, 2, none⟩ (.int .i64 x)) q s at' x := by
  have hlt := h.lt
  have h' : w.heap[q] = .cells #[.string s, .int .i64 at', .int .i64 c] 84 (0, 0) := by
    unfold Rd at h; simpa [Array.getElem?_eq_getElem hlt] using h
  show (w.heap.modify q _)[q]? = _
  rw [Array.getElem?_eq_getElem (by simpa using hlt), Array.getElem_modify_self, h']
  rfl
theorem Rd.drewN (h : Rd w q s at' c) (n : Nat) : Rd (w.drewN n) q s at' c := h
theorem Rd.drew (h : Rd w q s at' c) : Rd w.drew q s at' c := h
end

theorem open_any (s : ByteArray) (w : World) :
    Calls Try.prog 30 #[.string s] w fun e w' => e = .returned (.pointer (some ⟨w.heap.size, 0, none⟩)) ∧ w' = w.alloc (.cells #[.string s, .int .i64 0, .int .i64 0] 84) := by
  go_enter Try.func30, Try.ntmps30
  go_wp2
  go_ret
  exact ⟨rfl, rfl⟩

theorem get_at (s : ByteArray) (a i p : Nat) (hp : p = a + i) (h : p < s.size) : (s.data.toList.drop a)[i]? = some s[p] := by
  subst hp
  rw [List.getElem?_drop, List.getElem?_eq_getElem (by simpa using h)]; rfl

theorem fin_eq {L : List UInt8} {n k cd a b c : Nat} (h : rdNum 0 0 L = (n, k, cd)) (h' : rdNum 0 0 L = (a, b, c)) : n = a ∧ k = b ∧ cd = c := by
  rw [h] at h'
  exact ⟨(Prod.mk.inj h').1, (Prod.mk.inj (Prod.mk.inj h').2).1, (Prod.mk.inj (Prod.mk.inj h').2).2⟩
theorem fin_code {wr : World} {q : Nat} {s : ByteArray} {p at' i n k cd a c : Nat} (hp : p = at' + i) (hR : Rd wr q s p 0) (m : Nat) (h : n = a ∧ k = i ∧ cd = c) (x : Int) (hx : x = c) :
    Rd ((wr.drewN m).setCell ⟨q, 2, none⟩ (.int .i64 x)) q s (at' + k) cd := by
  obtain ⟨_, rfl, rfl⟩ := h
  subst hx hp
  exact (hR.drewN m).setCode _
theorem fin_at {wr : World} {q : Nat} {s : ByteArray} {p at' i n k cd a : Nat} (hp : p = at' + i) (hR : Rd wr q s p 0) (m : Nat) (h : n = a ∧ k = i + 1 ∧ cd = 0) :
    Rd ((wr.drewN m).setCell ⟨q, 1, none⟩ (.int .i64 ((p : Int) + 1))) q s (at' + k) cd := by
  obtain ⟨_, rfl, rfl⟩ := h
  subst hp
  exact (hR.drewN m).setAt (at' + i + 1)

theorem or_term (c : UInt8) (acc i : Nat) (ha : acc < 128 ^ i) (hi : i ≤ 9) (h9 : i = 9 → c.toNat ≤ 1) :
    bits .or .u64 (acc : Int) (IntKind.u64.wrap (IntKind.u64.wrap (bits .andNot .u8 (c.toNat : Int) 128) * 2 ^ (7 * i))) = ((acc + c.toNat % 128 * 128 ^ i : Nat) : Int) := by
  have h1 : ∀ x : Fin 256, bits .andNot .u8 (x.val : Int) 128 = ((x.val % 128 : Nat) : Int) := by decide +kernel
  have h2 := h1 ⟨c.toNat, c.toNat_lt⟩
  simp only at h2
  rw [h2]
  have e : (2 : Int) ^ (7 * i) = ((128 ^ i : Nat) : Int) := by
    rw [show (128 : Nat) = 2 ^ 7 from rfl, ← Nat.pow_mul]; simp
  have hb : c.toNat % 128 * 128 ^ i < 18446744073709551616 := by
    rcases Nat.lt_or_ge i 9 with h8 | h8
    · have hp : (128 : Nat) ^ i ≤ 128 ^ 8 := Nat.pow_le_pow_right (by omega) (by omega)
      have e8 : (128 : Nat) ^ 8 = 72057594037927936 := by decide
      rw [e8] at hp
      have hm : c.toNat % 128 * 128 ^ i ≤ 127 * 72057594037927936 := Nat.mul_le_mul (by omega) hp
      omega
    · have e9 : i = 9 := by omega
      have hc := h9 e9
      subst e9
      have e8 : (128 : Nat) ^ 9 = 9223372036854775808 := by decide
      rw [e8]; omega
  have hA : acc < 18446744073709551616 := by
    have hp : (128 : Nat) ^ i ≤ 128 ^ 9 := Nat.pow_le_pow_right (by omega) hi
    have e8 : (128 : Nat) ^ 9 = 9223372036854775808 := by decide
    omega
  rw [show IntKind.u64.wrap ((c.toNat % 128 : Nat) : Int) = ((c.toNat % 128 : Nat) : Int) from IntWalk.u64_in _ ⟨by omega, by omega⟩, e, ← Int.natCast_mul, IntWalk.u64_in _ ⟨by omega, by omega⟩, u64_or_nat acc _ hA hb, or_sum ha]

set_option maxRecDepth 100000 in
set_option maxHeartbeats 1000000 in
theorem rnumber_any (q : Nat) (s : ByteArray) (at' n k cd : Nat) (w : World) (h : Rd w q s at' 0) (hat : at' ≤ s.size) (hs : s.size ≤ 1000000) (hr : rdNum 0 0 (s.data.toList.drop at') = (n, k, cd)) :
    Calls Try.prog 37 #[.pointer (some ⟨q, 0, none⟩)] w
      fun e w' => e = .returned (.int .u64 n) ∧ Rd w' q s (at' + k) cd ∧ Same w w' q := by
  have HR : Hid (rdNum 0 0 (s.data.toList.drop at') = (n, k, cd)) := hr
  clear hr
  have h0 := h.text
  have h1 := h.at
  have h2 := h.code
  go_enter Try.func37, Try.ntmps37
  go_wp2
  go_loopw [3, 4] (fun x y wr => ∃ i acc p : Nat, x = .int .u64 acc ∧ y = .int .i64 i ∧ Hid (p = at' + i) ∧ p ≤ s.size ∧ i ≤ 9 ∧ Hid (acc < 128 ^ i) ∧ RS (s.data.toList.drop at') i acc ∧ Rd wr q s p 0 ∧ Same w wr q)
    (fun _ y _ => 10 - (intOf y).toNat)
  case atStart => exact ⟨0, 0, at', rfl, rfl, (rfl : at' = at' + 0), hat, by omega, (by decide : 0 < 128 ^ 0), rs_start _, h, Same.refl _ _⟩
  case round =>
    obtain ⟨i, acc, p, rfl, rfl, HP, hp, hi9, HA, hrs, hR, hS⟩ := hrel
    clear h0 h1 h2
    have g0 := hR.text
    have g1 := hR.at
    have g2 := hR.code
    have gf := hR.free
    by_cases hlt : p < s.size
    · have hne : ((p : Int) == (s.size : Int)) = false := beq_eq_false_iff_ne.2 (by omega)
      have hp0 : (0 : Int) ≤ (p : Int) := by omega
      have hpi : (p : Int) < (s.size : Int) := by omega
      by_cases e9 : ((i : Int) == 9) = true
      · have i9 : i = 9 := by have := beq_iff_eq.1 e9; omega
        have e0 : 0 < (i : Int) := by omega
        have H9 : Hid (i = 9) := i9
        clear i9
        by_cases e1 : 1 < ((s[p]).toNat : Int)
        · go_wp2_with fail
          go_quiet (fail)
          go_wp2_with fail
          go_quiet (fail)
          go_wp2
          go_ret
          exact ⟨ret_i (by rw [(fin_eq HR.out (rs_bad hrs (get_at s at' i p HP.out hlt) (.inl ⟨H9.out, by omega⟩))).1]; rfl), fin_code HP.out hR _ (fin_eq HR.out (rs_bad hrs (get_at s at' i p HP.out hlt) (.inl ⟨H9.out, by omega⟩))) 11 rfl, hS.trans ((Same.drewN _ _ _).trans (Same.setCell _ _ _ _))⟩
        · by_cases ez : ((s[p].toNat : Int) == 0) = true
          · go_wp2_with fail
            go_quiet (fail)
            go_wp2_with fail
            go_quiet (fail)
            go_wp2
            go_ret
            exact ⟨ret_i (by rw [(fin_eq HR.out (rs_bad hrs (get_at s at' i p HP.out hlt) (.inr ⟨by omega, by have := beq_iff_eq.1 ez; omega⟩))).1]; rfl), fin_code HP.out hR _ (fin_eq HR.out (rs_bad hrs (get_at s at' i p HP.out hlt) (.inr ⟨by omega, by have := beq_iff_eq.1 ez; omega⟩))) 11 rfl, hS.trans ((Same.drewN _ _ _).trans (Same.setCell _ _ _ _))⟩
          · have ez : ((s[p].toNat : Int) == 0) = false := by simpa using ez
            have hz : (s[p]).toNat ≠ 0 := by have := beq_eq_false_iff_ne.1 ez; omega
            have el : ((s[p]).toNat : Int) < 128 := by omega
            have hnb : ¬ ((i = 9 ∧ 1 < (s[p]).toNat) ∨ (0 < i ∧ (s[p]).toNat = 0)) := by omega
            have HO : Hid (bits .or .u64 (acc : Int) (IntKind.u64.wrap (IntKind.u64.wrap (bits .andNot .u8 ((s[p]).toNat : Int) 128) * 2 ^ (7 * i))) = ((acc + (s[p]).toNat % 128 * 128 ^ i : Nat) : Int)) := or_term (s[p]) acc i HA.out hi9 (by intro _; omega)
            have HL : Hid (rdNum 0 0 (s.data.toList.drop at') = (acc + (s[p]).toNat % 128 * 128 ^ i, i + 1, 0)) := rs_last hrs (get_at s at' i p HP.out hlt) hnb (by omega)
            clear hnb
            go_wp2_with fail
            go_quiet (fail)
            go_wp2_with fail
            go_quiet (fail)
            go_wp2
            go_ret
            exact ⟨ret_i (by rw [(fin_eq HR.out HL.out).1]; exact HO.out), fin_at HP.out hR _ (fin_eq HR.out HL.out), hS.trans ((Same.drewN _ _ _).trans (Same.setCell _ _ _ _))⟩
      · have e9 : ((i : Int) == 9) = false := by simpa using e9
        have hn9 : i ≠ 9 := by have := beq_eq_false_iff_ne.1 e9; omega
        by_cases e0 : 0 < (i : Int)
        · by_cases ez : ((s[p].toNat : Int) == 0) = true
          · go_wp2_with fail
            go_quiet (fail)
            go_wp2_with fail
            go_quiet (fail)
            go_wp2
            go_ret
            exact ⟨ret_i (by rw [(fin_eq HR.out (rs_bad hrs (get_at s at' i p HP.out hlt) (.inr ⟨by omega, by have := beq_iff_eq.1 ez; omega⟩))).1]; rfl), fin_code HP.out hR _ (fin_eq HR.out (rs_bad hrs (get_at s at' i p HP.out hlt) (.inr ⟨by omega, by have := beq_iff_eq.1 ez; omega⟩))) 11 rfl, hS.trans ((Same.drewN _ _ _).trans (Same.setCell _ _ _ _))⟩
          · have ez : ((s[p].toNat : Int) == 0) = false := by simpa using ez
            have hz : (s[p]).toNat ≠ 0 := by have := beq_eq_false_iff_ne.1 ez; omega
            by_cases el : (s[p].toNat : Int) < 128
            · have hnb : ¬ ((i = 9 ∧ 1 < (s[p]).toNat) ∨ (0 < i ∧ (s[p]).toNat = 0)) := by omega
              have HO : Hid (bits .or .u64 (acc : Int) (IntKind.u64.wrap (IntKind.u64.wrap (bits .andNot .u8 ((s[p]).toNat : Int) 128) * 2 ^ (7 * i))) = ((acc + (s[p]).toNat % 128 * 128 ^ i : Nat) : Int)) := or_term (s[p]) acc i HA.out hi9 (by omega)
              have HL : Hid (rdNum 0 0 (s.data.toList.drop at') = (acc + (s[p]).toNat % 128 * 128 ^ i, i + 1, 0)) := rs_last hrs (get_at s at' i p HP.out hlt) hnb (by omega)
              clear hnb
              go_wp2_with fail
              go_quiet (fail)
              go_wp2_with fail
              go_quiet (fail)
              go_wp2
              go_ret
              exact ⟨ret_i (by rw [(fin_eq HR.out HL.out).1]; exact HO.out), fin_at HP.out hR _ (fin_eq HR.out HL.out), hS.trans ((Same.drewN _ _ _).trans (Same.setCell _ _ _ _))⟩
            · have hnb : ¬ ((i = 9 ∧ 1 < (s[p]).toNat) ∨ (0 < i ∧ (s[p]).toNat = 0)) := by omega
              have HO : Hid (bits .or .u64 (acc : Int) (IntKind.u64.wrap (IntKind.u64.wrap (bits .andNot .u8 ((s[p]).toNat : Int) 128) * 2 ^ (7 * i))) = ((acc + (s[p]).toNat % 128 * 128 ^ i : Nat) : Int)) := or_term (s[p]) acc i HA.out hi9 (by omega)
              have hi8 : i < 9 := by omega
              have HM : RS (s.data.toList.drop at') (i + 1) (acc + (s[p]).toNat % 128 * 128 ^ i) := rs_more hrs (get_at s at' i p HP.out hlt) hnb (by omega)
              clear hnb hrs
              go_wp2_with fail
              go_quiet (fail)
              go_wp2_with fail
              go_quiet (fail)
              go_wp2
              go_roundw
              case rel => exact ⟨i + 1, acc + (s[p]).toNat % 128 * 128 ^ i, p + 1, by rw [HO.out], by go_num, (by rw [HP.out]; exact (rfl : at' + i + 1 = at' + (i + 1))), hlt, hi8, acc_lt (s[p]) HA.out, HM, (hR.drewN _).setAt (p + 1), hS.trans ((Same.drewN _ _ _).trans (Same.setCell _ _ _ _))⟩
              case measure => simp [intOf]; omega
        · by_cases el : (s[p].toNat : Int) < 128
          · have hnb : ¬ ((i = 9 ∧ 1 < (s[p]).toNat) ∨ (0 < i ∧ (s[p]).toNat = 0)) := by omega
            have HO : Hid (bits .or .u64 (acc : Int) (IntKind.u64.wrap (IntKind.u64.wrap (bits .andNot .u8 ((s[p]).toNat : Int) 128) * 2 ^ (7 * i))) = ((acc + (s[p]).toNat % 128 * 128 ^ i : Nat) : Int)) := or_term (s[p]) acc i HA.out hi9 (by omega)
            have HL : Hid (rdNum 0 0 (s.data.toList.drop at') = (acc + (s[p]).toNat % 128 * 128 ^ i, i + 1, 0)) := rs_last hrs (get_at s at' i p HP.out hlt) hnb (by omega)
            clear hnb
            go_wp2_with fail
            go_quiet (fail)
            go_wp2_with fail
            go_quiet (fail)
            go_wp2
            go_ret
            exact ⟨ret_i (by rw [(fin_eq HR.out HL.out).1]; exact HO.out), fin_at HP.out hR _ (fin_eq HR.out HL.out), hS.trans ((Same.drewN _ _ _).trans (Same.setCell _ _ _ _))⟩
          · have hnb : ¬ ((i = 9 ∧ 1 < (s[p]).toNat) ∨ (0 < i ∧ (s[p]).toNat = 0)) := by omega
            have HO : Hid (bits .or .u64 (acc : Int) (IntKind.u64.wrap (IntKind.u64.wrap (bits .andNot .u8 ((s[p]).toNat : Int) 128) * 2 ^ (7 * i))) = ((acc + (s[p]).toNat % 128 * 128 ^ i : Nat) : Int)) := or_term (s[p]) acc i HA.out hi9 (by omega)
            have hi8 : i < 9 := by omega
            have HM : RS (s.data.toList.drop at') (i + 1) (acc + (s[p]).toNat % 128 * 128 ^ i) := rs_more hrs (get_at s at' i p HP.out hlt) hnb (by omega)
            clear hnb hrs
            go_wp2_with fail
            go_quiet (fail)
            go_wp2_with fail
            go_quiet (fail)
            go_wp2
            go_roundw
            case rel => exact ⟨i + 1, acc + (s[p]).toNat % 128 * 128 ^ i, p + 1, by rw [HO.out], by go_num, (by rw [HP.out]; exact (rfl : at' + i + 1 = at' + (i + 1))), hlt, hi8, acc_lt (s[p]) HA.out, HM, (hR.drewN _).setAt (p + 1), hS.trans ((Same.drewN _ _ _).trans (Same.setCell _ _ _ _))⟩
            case measure => simp [intOf]; omega
    · have hpe : p = s.size := by omega
      have hne : ((p : Int) == (s.size : Int)) = true := beq_iff_eq.2 (by omega)
      have HE : Hid (rdNum 0 0 (s.data.toList.drop at') = (0, i, 10)) := rs_end hrs (by simp; have := HP.out; omega)
      clear hpe
      go_wp2_with fail
      go_quiet (fail)
      go_wp2
      go_ret
      exact ⟨ret_i (by rw [(fin_eq HR.out HE.out).1]; rfl), fin_code HP.out hR _ (fin_eq HR.out HE.out) 10 rfl, hS.trans ((Same.drewN _ _ _).trans (Same.setCell _ _ _ _))⟩

end Go.Proofs.Ytgbdnclolgdojaa
