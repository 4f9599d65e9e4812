/- The document's ReadNumber. -/
import Derived.Test.YticdikllfkfkfaaDoorCodeCur
namespace Go.Proofs.YticdikllfkfkfaaDoor
open Go.ChangeShapes Go.WideShapes Go.ChangeAt Go.RowKit
set_option linter.unusedVariables false

theorem add_term (c : UInt8) (acc i : Nat) (ha : acc < 128 ^ i) (hi : i ≤ 9) (h9 : i = 9 → c.toNat ≤ 1) :
    acc + c.toNat % 128 * 128 ^ i < 18446744073709551616 := by
  rcases Nat.lt_or_ge i 9 with h8 | h8
  · have hp : (128 : Nat) ^ i ≤ 128 ^ 8 := Nat.pow_le_pow_right (by omega) (by omega)
    have e8 : (128 : Nat) ^ 8 = 72057594037927936 := by decide
    rw [e8] at hp
    have hm : c.toNat % 128 * 128 ^ i ≤ 127 * 72057594037927936 := Nat.mul_le_mul (by omega) hp
    omega
  · have e9 : i = 9 := by omega
    have hc := h9 e9
    subst e9
    have e8 : (128 : Nat) ^ 9 = 9223372036854775808 := by decide
    rw [e8] at ha ⊢; omega

theorem add_val (c : UInt8) (acc i unit : Nat) (hu : unit = 128 ^ i) (ha : acc < 128 ^ i) (hi : i ≤ 9) (h9 : i = 9 → c.toNat ≤ 1) :
    IntKind.u64.wrap ((acc : Int) + IntKind.u64.wrap ((c.toNat : Int) % 128 * (unit : Int))) = ((acc + c.toNat % 128 * 128 ^ i : Nat) : Int) := by
  have h := add_term c acc i ha hi h9
  subst hu
  have e : (c.toNat : Int) % 128 * ((128 ^ i : Nat) : Int) = ((c.toNat % 128 * 128 ^ i : Nat) : Int) := by rw [Int.natCast_mul]; rfl
  rw [e]
  obtain ⟨m, hm⟩ : ∃ m, m = c.toNat % 128 * 128 ^ i := ⟨_, rfl⟩
  rw [← hm] at h ⊢
  have e1 : IntKind.u64.wrap (m : Int) = (m : Int) := IntWalk.u64_in _ ⟨by omega, by omega⟩
  rw [e1, IntWalk.u64_in _ ⟨by omega, by omega⟩]
  omega
theorem unit_val (i unit : Nat) (hu : unit = 128 ^ i) (hi : i < 9) : IntKind.u64.wrap ((unit : Int) * 128) = ((128 ^ (i + 1) : Nat) : Int) := by
  have hp : (128 : Nat) ^ i ≤ 128 ^ 8 := Nat.pow_le_pow_right (by omega) (by omega)
  have e8 : (128 : Nat) ^ 8 = 72057594037927936 := by decide
  rw [Nat.pow_succ, ← hu]
  rw [← hu] at hp
  rw [IntWalk.u64_in _ ⟨by omega, by omega⟩]
  omega

/-- The two blocks that ReadNumber makes: the cursor, and room for its answer. -/
abbrev cur2 (w : World) (s : ByteArray) (p : Nat) : World :=
  (w.alloc (.cells #[.string s, .int .i64 p, .int .i64 0] 27)).alloc (.cells #[.string { data := #[] }, .int .i64 0, .int .i64 0] 27)
theorem cur2_step (w : World) (s : ByteArray) (p x : Nat) : (cur2 w s p).setCell ⟨w.heap.size, 1, none⟩ (.int .i64 x) = cur2 w s x := by
  unfold cur2 World.setCell World.alloc
  congr 1
  apply Array.ext (by simp)
  intro i h1 h2
  have h3 : i < w.heap.size + 1 + 1 := by simpa using h2
  by_cases e0 : i = w.heap.size
  · subst e0
    simp [Array.getElem_modify, Array.getElem_push]
  · rw [Array.getElem_modify, if_neg (by simpa using fun h => e0 h.symm)]
    rcases Nat.lt_or_ge i w.heap.size with e1 | e1
    · simp [Array.getElem_push, e1, show i < w.heap.size + 1 by omega]
    · obtain rfl : i = w.heap.size + 1 := by omega
      simp [Array.getElem_push]

theorem cfin_bad {s : ByteArray} {p at' i n k cd : Nat} {w w' : World} {c : Nat} (hp : p = at' + i) (h : n = 0 ∧ k = i ∧ cd = c) (hb : Below w.heap.size w w') :
    Ending.returned (.tuple #[curV s p c, .int .u64 0]) = .returned (.tuple #[curV s (at' + k) cd, .int .u64 n]) ∧ Below w.heap.size w w' := by
  obtain ⟨rfl, rfl, rfl⟩ := h
  subst hp
  exact ⟨rfl, hb⟩
theorem cfin_last {s : ByteArray} {p at' i n k cd a : Nat} {w w' : World} {x : Int} (hp : p = at' + i) (h : n = a ∧ k = i + 1 ∧ cd = 0) (hx : x = (a : Nat)) (hb : Below w.heap.size w w') :
    Ending.returned (.tuple #[.agg #[.string s, .int .i64 ((p : Int) + 1), .int .i64 0], .int .u64 x]) = .returned (.tuple #[curV s (at' + k) cd, .int .u64 n]) ∧ Below w.heap.size w w' := by
  obtain ⟨rfl, rfl, rfl⟩ := h
  subst hp hx
  exact ⟨rfl, hb⟩
theorem bel2 (w : World) (a b : Obj) : Below w.heap.size w ((w.alloc a).alloc b) := ((Below.refl _ _).alloc (Nat.le_refl _) _).alloc (by simp) _

set_option maxRecDepth 100000 in
set_option maxHeartbeats 1000000 in
theorem cnumber_any (s : ByteArray) (at' n k cd : Nat) (w : World) (hat : at' ≤ s.size) (hs : s.size ≤ 1000000) (hr : rdNum 0 0 (s.data.toList.drop at') = (n, k, cd)) :
    Calls Tryd.prog 12 #[curV s at' 0] w fun e w' => e = .returned (.tuple #[curV s (at' + k) cd, .int .u64 n]) ∧ Below w.heap.size w w' := by
  have HR : Hid (rdNum 0 0 (s.data.toList.drop at') = (n, k, cd)) := hr
  clear hr
  go_enter Tryd.func12, Tryd.ntmps12
  go_wp2
  go_loopw [4, 5, 6] (fun x y z wr => ∃ i acc p unit : Nat, x = .int .u64 acc ∧ y = .int .u64 unit ∧ z = .int .i64 i ∧ Hid (p = at' + i) ∧ Hid (unit = 128 ^ i) ∧ p ≤ s.size ∧ i ≤ 9 ∧ Hid (acc < 128 ^ i) ∧ RS (s.data.toList.drop at') i acc ∧ wr = cur2 w s p)
    (fun _ _ z _ => 10 - (intOf z).toNat)
  case atStart => exact ⟨0, 0, at', 1, rfl, rfl, rfl, (rfl : at' = at' + 0), (by decide : 1 = 128 ^ 0), hat, by omega, (by decide : 0 < 128 ^ 0), rs_start _, rfl⟩
  case round =>
    obtain ⟨i, acc, p, unit, rfl, rfl, rfl, HP, HU, hp, hi9, HA, hrs, rfl⟩ := hrel
    have hi11 : (i : Int) < 11 := by omega
    by_cases hlt : p < s.size
    · have hp0 : (0 : Int) ≤ (p : Int) := by omega
      have hpi : (p : Int) < (s.size : Int) := by omega
      have hnl : ¬ (s.size : Int) ≤ (p : Int) := by omega
      have hx8 := (s[p]).toNat_lt
      by_cases e9 : ((i : Int) == 9) = true
      · have i9 : i = 9 := by have := beq_iff_eq.1 e9; omega
        have e0 : 0 < (i : Int) := by omega
        have H9 : Hid (i = 9) := i9
        clear i9
        by_cases e1 : 1 < ((s[p]).toNat : Int)
        · go_wp2
          exact bodyPost_ret (v := .tuple #[curV s p 11, .int .u64 0]) (by simp [results, Tryd.results12, go_sem]) rfl (cfin_bad HP.out (fin_eq HR.out (rs_bad hrs (get_at s at' i p HP.out hlt) (.inl ⟨H9.out, by omega⟩))) (bel2 w _ _))
        · by_cases ez : ((s[p].toNat : Int) == 0) = true
          · go_wp2
            exact bodyPost_ret (v := .tuple #[curV s p 11, .int .u64 0]) (by simp [results, Tryd.results12, go_sem]) rfl (cfin_bad HP.out (fin_eq HR.out (rs_bad hrs (get_at s at' i p HP.out hlt) (.inr ⟨by omega, by have := beq_iff_eq.1 ez; omega⟩))) (bel2 w _ _))
          · have ez : ((s[p].toNat : Int) == 0) = false := by simpa using ez
            have hz : (s[p]).toNat ≠ 0 := by have := beq_eq_false_iff_ne.1 ez; omega
            have el : ((s[p]).toNat : Int) < 128 := by omega
            have HL : Hid (rdNum 0 0 (s.data.toList.drop at') = (acc + (s[p]).toNat % 128 * 128 ^ i, i + 1, 0)) := rs_last hrs (get_at s at' i p HP.out hlt) (by omega) (by omega)
            have HO : Hid (IntKind.u64.wrap ((acc : Int) + IntKind.u64.wrap (((s[p]).toNat : Int) % 128 * (unit : Int))) = ((acc + (s[p]).toNat % 128 * 128 ^ i : Nat) : Int)) := add_val (s[p]) acc i unit HU.out HA.out hi9 (by omega)
            go_wp2
            exact bodyPost_ret (v := .tuple #[.agg #[.string s, .int .i64 ((p : Int) + 1), .int .i64 0], .int .u64 (IntKind.u64.wrap ((acc : Int) + IntKind.u64.wrap (((s[p]).toNat : Int) % 128 * (unit : Int))))]) (by simp [results, Tryd.results12, go_sem]) rfl (cfin_last HP.out (fin_eq HR.out HL.out) HO.out (bel2 w _ _))
      · have e9 : ((i : Int) == 9) = false := by simpa using e9
        have hn9 : i ≠ 9 := by have := beq_eq_false_iff_ne.1 e9; omega
        by_cases e0 : 0 < (i : Int)
        · by_cases ez : ((s[p].toNat : Int) == 0) = true
          · go_wp2
            exact bodyPost_ret (v := .tuple #[curV s p 11, .int .u64 0]) (by simp [results, Tryd.results12, go_sem]) rfl (cfin_bad HP.out (fin_eq HR.out (rs_bad hrs (get_at s at' i p HP.out hlt) (.inr ⟨by omega, by have := beq_iff_eq.1 ez; omega⟩))) (bel2 w _ _))
          · have ez : ((s[p].toNat : Int) == 0) = false := by simpa using ez
            have hz : (s[p]).toNat ≠ 0 := by have := beq_eq_false_iff_ne.1 ez; omega
            by_cases el : (s[p].toNat : Int) < 128
            · have HL : Hid (rdNum 0 0 (s.data.toList.drop at') = (acc + (s[p]).toNat % 128 * 128 ^ i, i + 1, 0)) := rs_last hrs (get_at s at' i p HP.out hlt) (by omega) (by omega)
              have HO : Hid (IntKind.u64.wrap ((acc : Int) + IntKind.u64.wrap (((s[p]).toNat : Int) % 128 * (unit : Int))) = ((acc + (s[p]).toNat % 128 * 128 ^ i : Nat) : Int)) := add_val (s[p]) acc i unit HU.out HA.out hi9 (by omega)
              go_wp2
              exact bodyPost_ret (v := .tuple #[.agg #[.string s, .int .i64 ((p : Int) + 1), .int .i64 0], .int .u64 (IntKind.u64.wrap ((acc : Int) + IntKind.u64.wrap (((s[p]).toNat : Int) % 128 * (unit : Int))))]) (by simp [results, Tryd.results12, go_sem]) rfl (cfin_last HP.out (fin_eq HR.out HL.out) HO.out (bel2 w _ _))
            · have hi8 : i < 9 := by omega
              have HM : Hid (RS (s.data.toList.drop at') (i + 1) (acc + (s[p]).toNat % 128 * 128 ^ i)) := rs_more hrs (get_at s at' i p HP.out hlt) (by omega) (by omega)
              have HO : Hid (IntKind.u64.wrap ((acc : Int) + IntKind.u64.wrap (((s[p]).toNat : Int) % 128 * (unit : Int))) = ((acc + (s[p]).toNat % 128 * 128 ^ i : Nat) : Int)) := add_val (s[p]) acc i unit HU.out HA.out hi9 (by omega)
              have HV : Hid (IntKind.u64.wrap ((unit : Int) * 128) = ((128 ^ (i + 1) : Nat) : Int)) := unit_val i unit HU.out hi8
              clear hrs
              go_wp2
              go_roundw
              case rel => exact ⟨i + 1, acc + (s[p]).toNat % 128 * 128 ^ i, p + 1, 128 ^ (i + 1), by rw [HO.out], by rw [HV.out], by go_num, (by rw [HP.out]; exact (rfl : at' + i + 1 = at' + (i + 1))), rfl, hlt, hi8, acc_lt (s[p]) HA.out, HM.out, rfl⟩
              case measure => simp [intOf]; omega
        · by_cases el : (s[p].toNat : Int) < 128
          · have HL : Hid (rdNum 0 0 (s.data.toList.drop at') = (acc + (s[p]).toNat % 128 * 128 ^ i, i + 1, 0)) := rs_last hrs (get_at s at' i p HP.out hlt) (by omega) (by omega)
            have HO : Hid (IntKind.u64.wrap ((acc : Int) + IntKind.u64.wrap (((s[p]).toNat : Int) % 128 * (unit : Int))) = ((acc + (s[p]).toNat % 128 * 128 ^ i : Nat) : Int)) := add_val (s[p]) acc i unit HU.out HA.out hi9 (by omega)
            go_wp2
            exact bodyPost_ret (v := .tuple #[.agg #[.string s, .int .i64 ((p : Int) + 1), .int .i64 0], .int .u64 (IntKind.u64.wrap ((acc : Int) + IntKind.u64.wrap (((s[p]).toNat : Int) % 128 * (unit : Int))))]) (by simp [results, Tryd.results12, go_sem]) rfl (cfin_last HP.out (fin_eq HR.out HL.out) HO.out (bel2 w _ _))
          · have hi8 : i < 9 := by omega
            have HM : Hid (RS (s.data.toList.drop at') (i + 1) (acc + (s[p]).toNat % 128 * 128 ^ i)) := rs_more hrs (get_at s at' i p HP.out hlt) (by omega) (by omega)
            have HO : Hid (IntKind.u64.wrap ((acc : Int) + IntKind.u64.wrap (((s[p]).toNat : Int) % 128 * (unit : Int))) = ((acc + (s[p]).toNat % 128 * 128 ^ i : Nat) : Int)) := add_val (s[p]) acc i unit HU.out HA.out hi9 (by omega)
            have HV : Hid (IntKind.u64.wrap ((unit : Int) * 128) = ((128 ^ (i + 1) : Nat) : Int)) := unit_val i unit HU.out hi8
            clear hrs
            go_wp2
            go_roundw
            case rel => exact ⟨i + 1, acc + (s[p]).toNat % 128 * 128 ^ i, p + 1, 128 ^ (i + 1), by rw [HO.out], by rw [HV.out], by go_num, (by rw [HP.out]; exact (rfl : at' + i + 1 = at' + (i + 1))), rfl, hlt, hi8, acc_lt (s[p]) HA.out, HM.out, rfl⟩
            case measure => simp [intOf]; omega
    · have hnl : (s.size : Int) ≤ (p : Int) := by omega
      have HE : Hid (rdNum 0 0 (s.data.toList.drop at') = (0, i, 10)) := rs_end hrs (by simp; have := HP.out; omega)
      clear hrs
      go_wp2
      exact bodyPost_ret (v := .tuple #[curV s p 10, .int .u64 0]) (by simp [results, Tryd.results12, go_sem]) rfl (cfin_bad HP.out (fin_eq HR.out HE.out) (bel2 w _ _))
end Go.Proofs.YticdikllfkfkfaaDoor
