/- Numbers, ints and texts as bytes, in plain lists: how they are written, how they are read, and that each has one spelling; no program in sight. -/
import Derived.KernelRfl
namespace Go.Proofs.YtgbdnclolgdojaaDoor
set_option linter.unusedVariables false

/-- A number's bytes, in at most f steps behind the first. -/
def numF : Nat → Nat → List UInt8
  | 0, n => [UInt8.ofNat n]
  | f + 1, n => if n < 128 then [UInt8.ofNat n] else UInt8.ofNat (n % 128 + 128) :: numF f (n / 128)

/-- A number's bytes. -/
def numB (n : Nat) : List UInt8 := numF n n

theorem numF_enough (n f g : Nat) (hf : n ≤ f) (hg : n ≤ g) : numF f n = numF g n := by
  induction n using Nat.strongRecOn generalizing f g with
  | _ n ih =>
    by_cases hn : n < 128
    · cases f <;> cases g <;> simp [numF, hn]
    · cases f with
      | zero => omega
      | succ f =>
        cases g with
        | zero => omega
        | succ g => simp only [numF, if_neg hn]; rw [ih (n / 128) (by omega) f g (by omega) (by omega)]

theorem numB_small (n : Nat) (h : n < 128) : numB n = [UInt8.ofNat n] := by
  cases n with
  | zero => rfl
  | succ n => simp only [numB, numF, if_pos h]
theorem numB_big (n : Nat) (h : ¬ n < 128) : numB n = UInt8.ofNat (n % 128 + 128) :: numB (n / 128) := by
  cases n with
  | zero => omega
  | succ n => simp only [numB, numF, if_neg h]; rw [numF_enough ((n + 1) / 128) n ((n + 1) / 128) (by omega) (Nat.le_refl _)]

theorem numB_len (k n : Nat) (h : n < 128 ^ (k + 1)) : (numB n).length ≤ k + 1 := by
  induction k generalizing n with
  | zero => rw [numB_small n (by simpa using h)]; simp
  | succ k ih =>
    by_cases hn : n < 128
    · rw [numB_small n hn]; simp
    · rw [numB_big n hn]
      have := ih (n / 128) (by rw [Nat.pow_succ] at h; omega)
      simp; omega

theorem numB_len10 (n : Nat) (h : n < 18446744073709551616) : (numB n).length ≤ 10 :=
  numB_len 9 n (Nat.lt_of_lt_of_le h (by decide))

theorem numB_pos (n : Nat) : 0 < (numB n).length := by
  by_cases hn : n < 128
  · rw [numB_small n hn]; simp
  · rw [numB_big n hn]; simp

/-- What a reader answers that has read i bytes of a number, acc so far: the value, how many more bytes it takes, the code. -/
def rdNum (i acc : Nat) : List UInt8 → Nat × Nat × Nat
  | [] => (0, 0, 10)
  | c :: l =>
    if (i = 9 ∧ 1 < c.toNat) ∨ (0 < i ∧ c.toNat = 0) then (0, 0, 11)
    else if c.toNat < 128 then (acc + c.toNat % 128 * 128 ^ i, 1, 0)
    else ((rdNum (i + 1) (acc + c.toNat % 128 * 128 ^ i) l).1, (rdNum (i + 1) (acc + c.toNat % 128 * 128 ^ i) l).2.1 + 1, (rdNum (i + 1) (acc + c.toNat % 128 * 128 ^ i) l).2.2)

theorem rd_nil (i acc : Nat) : rdNum i acc [] = (0, 0, 10) := rfl
theorem rd_bad (i acc : Nat) (c : UInt8) (l : List UInt8) (h : (i = 9 ∧ 1 < c.toNat) ∨ (0 < i ∧ c.toNat = 0)) : rdNum i acc (c :: l) = (0, 0, 11) := by
  rw [rdNum, if_pos h]
theorem rd_last (i acc : Nat) (c : UInt8) (l : List UInt8) (h : ¬ ((i = 9 ∧ 1 < c.toNat) ∨ (0 < i ∧ c.toNat = 0))) (hc : c.toNat < 128) :
    rdNum i acc (c :: l) = (acc + c.toNat % 128 * 128 ^ i, 1, 0) := by
  rw [rdNum, if_neg h, if_pos hc]
theorem rd_more (i acc : Nat) (c : UInt8) (l : List UInt8) (h : ¬ ((i = 9 ∧ 1 < c.toNat) ∨ (0 < i ∧ c.toNat = 0))) (hc : ¬ c.toNat < 128) :
    rdNum i acc (c :: l) = ((rdNum (i + 1) (acc + c.toNat % 128 * 128 ^ i) l).1, (rdNum (i + 1) (acc + c.toNat % 128 * 128 ^ i) l).2.1 + 1, (rdNum (i + 1) (acc + c.toNat % 128 * 128 ^ i) l).2.2) := by
  rw [rdNum, if_neg h, if_neg hc]

theorem ofNat_toNat (n : Nat) (h : n < 256) : (UInt8.ofNat n).toNat = n := by simp; omega

/-- What is written is read again. -/
theorem rd_numB (n : Nat) (i acc : Nat) (rest : List UInt8) (hi : i ≤ 9) (hn : n * 128 ^ i < 18446744073709551616) (h0 : 0 < i → 0 < n) :
    rdNum i acc (numB n ++ rest) = (acc + n * 128 ^ i, (numB n).length, 0) := by
  induction n using Nat.strongRecOn generalizing i acc with
  | _ n ih =>
    by_cases hs : n < 128
    · rw [numB_small n hs]
      have e := ofNat_toNat n (by omega)
      have hb : ¬ ((i = 9 ∧ 1 < (UInt8.ofNat n).toNat) ∨ (0 < i ∧ (UInt8.ofNat n).toNat = 0)) := by
        rw [e]
        rintro (⟨rfl, h⟩ | ⟨h, rfl⟩)
        · have : (128 : Nat) ^ 9 = 9223372036854775808 := by decide
          rw [this] at hn; omega
        · have := h0 h; omega
      show rdNum i acc (UInt8.ofNat n :: rest) = _
      rw [rd_last i acc _ rest hb (by rw [e]; exact hs), e, Nat.mod_eq_of_lt hs]; rfl
    · rw [numB_big n hs]
      have e := ofNat_toNat (n % 128 + 128) (by omega)
      have hlt : i < 9 := by
        rcases Nat.lt_or_ge i 9 with h | h
        · exact h
        · have e9 : i = 9 := by omega
          subst e9
          have : (128 : Nat) ^ 9 = 9223372036854775808 := by decide
          rw [this] at hn; omega
      have hb : ¬ ((i = 9 ∧ 1 < (UInt8.ofNat (n % 128 + 128)).toNat) ∨ (0 < i ∧ (UInt8.ofNat (n % 128 + 128)).toNat = 0)) := by
        rw [e]; omega
      show rdNum i acc (UInt8.ofNat (n % 128 + 128) :: (numB (n / 128) ++ rest)) = _
      rw [rd_more i acc _ _ hb (by rw [e]; omega), e]
      have em : (n % 128 + 128) % 128 = n % 128 := by omega
      rw [em]
      have hp : n / 128 * 128 ^ (i + 1) ≤ n * 128 ^ i := by
        rw [Nat.pow_succ, Nat.mul_comm (128 ^ i) 128, ← Nat.mul_assoc]
        exact Nat.mul_le_mul_right _ (Nat.div_mul_le_self n 128)
      have hr := ih (n / 128) (by omega) (i + 1) (acc + n % 128 * 128 ^ i) (by omega) (Nat.lt_of_le_of_lt hp hn) (by intro _; omega)
      rw [hr]
      have hsum : acc + n % 128 * 128 ^ i + n / 128 * 128 ^ (i + 1) = acc + n * 128 ^ i := by
        have h1 : n = n % 128 + n / 128 * 128 := by omega
        have h2 : n * 128 ^ i = n % 128 * 128 ^ i + n / 128 * 128 ^ (i + 1) := by
          conv => lhs; rw [h1]
          rw [Nat.add_mul, Nat.mul_assoc, Nat.pow_succ, Nat.mul_comm 128 (128 ^ i)]
        omega
      simp only [hsum, List.length_cons]

theorem rd_back (n : Nat) (rest : List UInt8) (hn : n < 18446744073709551616) : rdNum 0 0 (numB n ++ rest) = (n, (numB n).length, 0) := by
  have := rd_numB n 0 0 rest (by omega) (by simpa using hn) (by omega)
  simpa using this

/-- An error's value is 0. -/
theorem rd_err (i acc : Nat) (l : List UInt8) (h : (rdNum i acc l).2.2 ≠ 0) : (rdNum i acc l).1 = 0 := by
  induction l generalizing i acc with
  | nil => rfl
  | cons c l ih =>
    by_cases hb : (i = 9 ∧ 1 < c.toNat) ∨ (0 < i ∧ c.toNat = 0)
    · rw [rd_bad i acc c l hb]
    · by_cases hc : c.toNat < 128
      · rw [rd_last i acc c l hb hc] at h; simp at h
      · rw [rd_more i acc c l hb hc] at h ⊢; exact ih _ _ h

theorem rd_code (i acc : Nat) (l : List UInt8) : (rdNum i acc l).2.2 = 0 ∨ (rdNum i acc l).2.2 = 10 ∨ (rdNum i acc l).2.2 = 11 := by
  induction l generalizing i acc with
  | nil => right; left; rfl
  | cons c l ih =>
    by_cases hb : (i = 9 ∧ 1 < c.toNat) ∨ (0 < i ∧ c.toNat = 0)
    · rw [rd_bad i acc c l hb]; right; right; rfl
    · by_cases hc : c.toNat < 128
      · rw [rd_last i acc c l hb hc]; left; rfl
      · rw [rd_more i acc c l hb hc]; exact ih _ _

theorem rd_taken (i acc : Nat) (l : List UInt8) : (rdNum i acc l).2.1 ≤ l.length := by
  induction l generalizing i acc with
  | nil => exact Nat.le_refl _
  | cons c l ih =>
    by_cases hb : (i = 9 ∧ 1 < c.toNat) ∨ (0 < i ∧ c.toNat = 0)
    · rw [rd_bad i acc c l hb]; simp
    · by_cases hc : c.toNat < 128
      · rw [rd_last i acc c l hb hc]; simp
      · rw [rd_more i acc c l hb hc]; have := ih (i + 1) (acc + c.toNat % 128 * 128 ^ i); simp; omega

/-- Bytes that are read as a number are its bytes; and the number is below 2^64. -/
theorem rd_one (i acc : Nat) (l : List UInt8) (hi : i ≤ 9) (h : (rdNum i acc l).2.2 = 0) :
    ∃ n, (rdNum i acc l).1 = acc + n * 128 ^ i ∧ n * 128 ^ i < 18446744073709551616 ∧ l.take (rdNum i acc l).2.1 = numB n ∧ (0 < i → 0 < n) := by
  induction l generalizing i acc with
  | nil => simp [rd_nil] at h
  | cons c l ih =>
    by_cases hb : (i = 9 ∧ 1 < c.toNat) ∨ (0 < i ∧ c.toNat = 0)
    · rw [rd_bad i acc c l hb] at h; simp at h
    · have hpow : i ≤ 8 → (128 : Nat) ^ i ≤ 72057594037927936 := fun h8 => by
        have : (128 : Nat) ^ i ≤ 128 ^ 8 := Nat.pow_le_pow_right (by omega) h8
        have e : (128 : Nat) ^ 8 = 72057594037927936 := by decide
        omega
      have h9 : (128 : Nat) ^ 9 = 9223372036854775808 := by decide
      by_cases hc : c.toNat < 128
      · rw [rd_last i acc c l hb hc]
        refine ⟨c.toNat, by rw [Nat.mod_eq_of_lt hc], ?_, ?_, by omega⟩
        · rcases Nat.lt_or_ge i 9 with h8 | h8
          · have hp := hpow (by omega)
            calc c.toNat * 128 ^ i ≤ 127 * 72057594037927936 := Nat.mul_le_mul (by omega) hp
              _ < 18446744073709551616 := by decide
          · have e9 : i = 9 := by omega
            subst e9
            rw [h9]
            have : c.toNat ≤ 1 := by omega
            omega
        · rw [numB_small c.toNat hc]; simp
      · rw [rd_more i acc c l hb hc] at h ⊢
        have hi8 : i < 9 := by
          rcases Nat.lt_or_ge i 9 with h8 | h8
          · exact h8
          · exfalso; apply hb; left; exact ⟨by omega, by omega⟩
        obtain ⟨m, hm1, hm2, hm3, hm4⟩ := ih (i + 1) (acc + c.toNat % 128 * 128 ^ i) (by omega) h
        have hmp := hm4 (by omega)
        have hc256 : c.toNat < 256 := c.toNat_lt
        refine ⟨c.toNat % 128 + 128 * m, ?_, ?_, ?_, by omega⟩
        · dsimp only; rw [hm1, Nat.add_mul, Nat.pow_succ, Nat.mul_comm 128 m, Nat.mul_assoc m 128, Nat.mul_comm 128 (128 ^ i)]; omega
        · have hk : 128 ^ i * 128 = 128 ^ (i + 1) := (Nat.pow_succ ..).symm
          have e1 : (c.toNat % 128 + 128 * m) * 128 ^ i = c.toNat % 128 * 128 ^ i + m * 128 ^ (i + 1) := by
            rw [Nat.add_mul, ← hk, Nat.mul_comm 128 m, Nat.mul_assoc m 128, Nat.mul_comm 128 (128 ^ i)]
          have e2 : c.toNat % 128 * 128 ^ i < 128 ^ (i + 1) := by
            rw [← hk, Nat.mul_comm (128 ^ i) 128]
            exact Nat.mul_lt_mul_of_pos_right (by omega) (Nat.pow_pos (by omega))
          -- 128^(i+1) divides 2^64 or i + 1 = 9 .. : both sides are multiples of 2^(7(i+1)) or 2^63
          have e3 : m * 128 ^ (i + 1) + 128 ^ (i + 1) ≤ 18446744073709551616 := by
            have hd : (128 : Nat) ^ (i + 1) ∣ 18446744073709551616 := by
              have : i + 1 ≤ 9 := by omega
              have h2 : (128 : Nat) ^ (i + 1) ∣ 128 ^ 9 := Nat.pow_dvd_pow 128 this
              exact Nat.dvd_trans h2 ⟨2, by decide⟩
            obtain ⟨q, hq⟩ := hd
            rw [hq] at hm2 ⊢
            rw [Nat.mul_comm m] at hm2 ⊢
            have hlt : m < q := Nat.lt_of_mul_lt_mul_left hm2
            calc 128 ^ (i + 1) * m + 128 ^ (i + 1) = 128 ^ (i + 1) * (m + 1) := by rw [Nat.mul_add, Nat.mul_one]
              _ ≤ 128 ^ (i + 1) * q := Nat.mul_le_mul_left _ hlt
          omega
        · dsimp only
          rw [List.take_succ_cons, hm3, numB_big (c.toNat % 128 + 128 * m) (by omega)]
          have d1 : (c.toNat % 128 + 128 * m) % 128 + 128 = c.toNat := by omega
          have d2 : (c.toNat % 128 + 128 * m) / 128 = m := by omega
          rw [d1, d2]
          congr 1
          simp

/-- Bytes of a number that are cut off lack bytes, all of them taken. -/
theorem rd_cut (n : Nat) (i acc k : Nat) (hi : i ≤ 9) (hn : n * 128 ^ i < 18446744073709551616) (hk : k < (numB n).length) :
    rdNum i acc ((numB n).take k) = (0, k, 10) := by
  induction n using Nat.strongRecOn generalizing i acc k with
  | _ n ih =>
    cases k with
    | zero => simp [rd_nil]
    | succ k =>
      by_cases hs : n < 128
      · rw [numB_small n hs] at hk; simp at hk
      · rw [numB_big n hs] at hk ⊢
        have e := ofNat_toNat (n % 128 + 128) (by omega)
        have hlt : i < 9 := by
          rcases Nat.lt_or_ge i 9 with h | h
          · exact h
          · have e9 : i = 9 := by omega
            subst e9
            have : (128 : Nat) ^ 9 = 9223372036854775808 := by decide
            rw [this] at hn; omega
        have hb : ¬ ((i = 9 ∧ 1 < (UInt8.ofNat (n % 128 + 128)).toNat) ∨ (0 < i ∧ (UInt8.ofNat (n % 128 + 128)).toNat = 0)) := by
          rw [e]; omega
        rw [List.take_succ_cons, rd_more i acc _ _ hb (by rw [e]; omega), e]
        have hp : n / 128 * 128 ^ (i + 1) ≤ n * 128 ^ i := by
          rw [Nat.pow_succ, Nat.mul_comm (128 ^ i) 128, ← Nat.mul_assoc]
          exact Nat.mul_le_mul_right _ (Nat.div_mul_le_self n 128)
        rw [ih (n / 128) (by omega) (i + 1) _ k (by omega) (Nat.lt_of_le_of_lt hp hn) (by simpa using hk)]

/-- Behind i bytes of L, acc so far, it goes on as it began. -/
def RS (L : List UInt8) (i acc : Nat) : Prop :=
  rdNum 0 0 L = ((rdNum i acc (L.drop i)).1, (rdNum i acc (L.drop i)).2.1 + i, (rdNum i acc (L.drop i)).2.2)
theorem rs_start (L : List UInt8) : RS L 0 0 := by unfold RS; simp
theorem rs_end {L : List UInt8} {i acc : Nat} (h : RS L i acc) (hL : L.length ≤ i) : rdNum 0 0 L = (0, i, 10) := by
  unfold RS at h; rw [h, List.drop_eq_nil_of_le hL, rd_nil]; simp
theorem drop_at {L : List UInt8} {i : Nat} {c : UInt8} (hc : L[i]? = some c) : L.drop i = c :: L.drop (i + 1) := by
  obtain ⟨hi, e⟩ := List.getElem?_eq_some_iff.1 hc
  rw [← e]; exact List.drop_eq_getElem_cons hi
theorem rs_bad {L : List UInt8} {i acc : Nat} {c : UInt8} (h : RS L i acc) (hc : L[i]? = some c) (hb : (i = 9 ∧ 1 < c.toNat) ∨ (0 < i ∧ c.toNat = 0)) : rdNum 0 0 L = (0, i, 11) := by
  unfold RS at h; rw [h, drop_at hc, rd_bad i acc c _ hb]; simp
theorem rs_last {L : List UInt8} {i acc : Nat} {c : UInt8} (h : RS L i acc) (hc : L[i]? = some c) (hb : ¬ ((i = 9 ∧ 1 < c.toNat) ∨ (0 < i ∧ c.toNat = 0))) (hl : c.toNat < 128) :
    rdNum 0 0 L = (acc + c.toNat % 128 * 128 ^ i, i + 1, 0) := by
  unfold RS at h; rw [h, drop_at hc, rd_last i acc c _ hb hl]; simp; omega
theorem rs_more {L : List UInt8} {i acc : Nat} {c : UInt8} (h : RS L i acc) (hc : L[i]? = some c) (hb : ¬ ((i = 9 ∧ 1 < c.toNat) ∨ (0 < i ∧ c.toNat = 0))) (hl : ¬ c.toNat < 128) :
    RS L (i + 1) (acc + c.toNat % 128 * 128 ^ i) := by
  unfold RS at *; rw [h, drop_at hc, rd_more i acc c _ hb hl]; simp; omega

theorem acc_lt {i acc : Nat} (c : UInt8) (h : acc < 128 ^ i) : acc + c.toNat % 128 * 128 ^ i < 128 ^ (i + 1) := by
  have : c.toNat % 128 * 128 ^ i ≤ 127 * 128 ^ i := Nat.mul_le_mul_right _ (by omega)
  rw [Nat.pow_succ]; omega

/-- The bytes are put together: an or of parts that don't overlap is their sum. -/
theorem or_sum {i acc b : Nat} (h : acc < 128 ^ i) : acc ||| (b * 128 ^ i) = acc + b * 128 ^ i := by
  have e : (128 : Nat) ^ i = 2 ^ (7 * i) := by rw [Nat.pow_mul]
  rw [e] at h ⊢
  rw [Nat.or_comm, Nat.mul_comm b, ← Nat.two_pow_add_eq_or_of_lt h b, Nat.add_comm]

/-- The number of an int: 2n, or -2n - 1. -/
def zig (n : Int) : Nat := if 0 ≤ n then (2 * n).toNat else (-2 * n - 1).toNat
/-- The int of a number. -/
def zag (m : Nat) : Int := if m % 2 = 1 then -(m / 2 : Nat) - 1 else (m / 2 : Nat)
theorem zag_zig (n : Int) : zag (zig n) = n := by
  unfold zag zig; split <;> split <;> omega
theorem zig_lt (n : Int) (h0 : -9223372036854775808 ≤ n) (h1 : n ≤ 9223372036854775807) : zig n < 18446744073709551616 := by
  unfold zig; split <;> omega

theorem numB_inj (a b : Nat) (ha : a < 18446744073709551616) (hb : b < 18446744073709551616) (h : numB a = numB b) : a = b := by
  have h1 := rd_back a [] ha
  have h2 := rd_back b [] hb
  rw [h] at h1
  rw [h2] at h1
  exact (Prod.mk.inj h1).1.symm

theorem numB_mono (a b : Nat) (h : a ≤ b) : (numB a).length ≤ (numB b).length := by
  induction b using Nat.strongRecOn generalizing a with
  | _ b ih =>
    by_cases hb : b < 128
    · rw [numB_small a (by omega), numB_small b hb]; simp
    · by_cases ha : a < 128
      · rw [numB_small a ha]; exact numB_pos b
      · rw [numB_big a ha, numB_big b hb]
        have := ih (b / 128) (by omega) (a / 128) (by omega)
        simpa using this

end Go.Proofs.YtgbdnclolgdojaaDoor
