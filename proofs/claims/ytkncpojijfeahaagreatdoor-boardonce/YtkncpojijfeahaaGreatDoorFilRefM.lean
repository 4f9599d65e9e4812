/- The document's numbers, as lists of bytes: what its reader takes for one is what the program takes for one. No program in sight. -/
import Derived.Test.YtkncpojijfeahaaGreatDoorFilPrnM
namespace Go.Proofs.YtkncpojijfeahaaGreatDoor
open Go.RowKit
set_option linter.unusedVariables false

def dva (n : Nat) (l : List UInt8) : Nat := l.foldl (fun n c => 10 * n + (c.toNat - 48)) n
def dv (l : List UInt8) : Nat := dva 0 l
theorem dva_cons (n : Nat) (c : UInt8) (l : List UInt8) : dva n (c :: l) = dva (10 * n + (c.toNat - 48)) l := by unfold dva; rw [List.foldl_cons]
theorem dv_snoc (l : List UInt8) (c : UInt8) : dv (l ++ [c]) = 10 * dv l + (c.toNat - 48) := by unfold dv dva; rw [List.foldl_append]; rfl
theorem dva_ge : ∀ (l : List UInt8) (n : Nat), n ≤ dva n l
  | [], n => Nat.le_refl _
  | c :: l, n => by rw [dva_cons]; have := dva_ge l (10 * n + (c.toNat - 48)); omega
theorem dva_lt : ∀ (l : List UInt8) (n : Nat), (∀ c ∈ l, isDigit c = true) → dva n l < (n + 1) * 10 ^ l.length
  | [], n, _ => by simp [dva]
  | c :: l, n, h => by
    have hc := h c (by simp)
    have ih := dva_lt l (10 * n + (c.toNat - 48)) (fun d hd => h d (by simp [hd]))
    rw [dva_cons, List.length_cons, Nat.pow_succ]
    have h9 : c.toNat - 48 ≤ 9 := by unfold isDigit at hc; simp at hc; omega
    have h2 : (10 * n + (c.toNat - 48) + 1) * 10 ^ l.length ≤ (10 * (n + 1)) * 10 ^ l.length := Nat.mul_le_mul_right _ (by omega)
    have e : (10 * (n + 1)) * 10 ^ l.length = (n + 1) * (10 ^ l.length * 10) := by rw [Nat.mul_comm 10, Nat.mul_assoc, Nat.mul_comm 10]
    exact Nat.lt_of_lt_of_le ih (e ▸ h2)
theorem dv_lt (l : List UInt8) (h : ∀ c ∈ l, isDigit c = true) : dv l < 10 ^ l.length := by
  have := dva_lt l 0 h
  unfold dv; simpa using this
theorem parse_dva : ∀ (l : List UInt8) (n : Nat), (∀ c ∈ l, isDigit c = true) → dva n l < 1000000000000000 → Lib.parseUint10 n l = .ok (dva n l)
  | [], n, _, _ => rfl
  | c :: l, n, h, hb => by
    have hc := h c (by simp)
    have hd : 48 ≤ c.toNat ∧ c.toNat ≤ 57 := by unfold isDigit at hc; simp at hc; omega
    rw [dva_cons] at hb ⊢
    have hg := dva_ge l (10 * n + (c.toNat - 48))
    have ih := parse_dva l (10 * n + (c.toNat - 48)) (fun d hd => h d (by simp [hd])) hb
    rw [Lib.parseUint10, if_pos hd, if_neg (by omega), if_neg (by omega), show n * 10 + (c.toNat - 48) = 10 * n + (c.toNat - 48) by omega]
    exact ih
theorem nDig_le : ∀ (k u : Nat), u < 10 ^ k → 1 ≤ k → Lib.nDigits u ≤ k := by
  intro k
  induction k with
  | zero => intro u h1 h2; omega
  | succ k ih =>
    intro u h1 _
    unfold Lib.nDigits
    split
    · omega
    · rename_i h10
      by_cases hk : k = 0
      · subst hk; simp at h1; omega
      · have := ih (u / 10) (by rw [Nat.pow_succ] at h1; omega) (by omega)
        omega
theorem dig_back {c : UInt8} (h : isDigit c = true) : UInt8.ofNat (48 + (c.toNat - 48)) = c := by
  apply UInt8.toNat_inj.1
  unfold isDigit at h; simp at h
  rw [UInt8.toNat_ofNat']; omega
/-- A numeral in form is the one of its number. -/
theorem dec_dv : ∀ (k : Nat) (l : List UInt8), l.length = k + 1 → (∀ c ∈ l, isDigit c = true) → (k = 0 ∨ ∃ c r, l = c :: r ∧ c.toNat ≠ 48) → Lib.decDigits (dv l) = l ∧ (k = 0 ∨ 0 < dv l) := by
  intro k
  induction k with
  | zero =>
    intro l hl hd _
    match l, hl with
    | [c], _ =>
      have hc := hd c (by simp)
      have e : dv [c] = c.toNat - 48 := by show 10 * 0 + (c.toNat - 48) = _; omega
      have h9 : c.toNat - 48 < 10 := by unfold isDigit at hc; simp at hc; omega
      rw [e, Lib.decDigits_one h9, dig_back hc]
      exact ⟨rfl, Or.inl rfl⟩
  | succ k ih =>
    intro l hl hd hh
    have hne : l ≠ [] := by intro e; subst e; simp at hl
    obtain ⟨m, b, rfl⟩ : ∃ m b, l = m ++ [b] := ⟨l.dropLast, l.getLast hne, (List.dropLast_concat_getLast hne).symm⟩
    have hm : m.length = k + 1 := by simp at hl; omega
    have hb := hd b (by simp)
    have hdm : ∀ c ∈ m, isDigit c = true := fun c hc => hd c (by simp [hc])
    obtain ⟨c, r, e, hc⟩ : ∃ c r, m ++ [b] = c :: r ∧ c.toNat ≠ 48 := by
      rcases hh with h | h
      · omega
      · exact h
    obtain ⟨c', r', rfl⟩ : ∃ c' r', m = c' :: r' := by
      cases m with
      | nil => simp at hm
      | cons c' r' => exact ⟨c', r', rfl⟩
    have ec : c' = c := by simp at e; exact e.1
    obtain ⟨i1, i2⟩ := ih (c' :: r') hm hdm (Or.inr ⟨c', r', rfl, by rw [ec]; exact hc⟩)
    have hpos : 0 < dv (c' :: r') := by
      rcases i2 with h0 | h0
      · subst h0
        have hr : r' = [] := by simp at hm; exact List.eq_nil_of_length_eq_zero (by simpa using hm)
        subst hr
        have e2 : dv [c'] = c'.toNat - 48 := by show 10 * 0 + (c'.toNat - 48) = _; omega
        have hd1 := hdm c' (by simp)
        unfold isDigit at hd1; simp at hd1
        rw [e2, ec]; rw [ec] at hd1
        clear hh i1 e e2
        omega
      · exact h0
    have h9 : b.toNat - 48 < 10 := by unfold isDigit at hb; simp at hb; omega
    rw [dv_snoc]
    refine ⟨?_, Or.inr (by omega)⟩
    rw [Lib.decDigits, dif_neg (by omega), show (10 * dv (c' :: r') + (b.toNat - 48)) / 10 = dv (c' :: r') by omega, show (10 * dv (c' :: r') + (b.toNat - 48)) % 10 = b.toNat - 48 by omega, i1, dig_back hb]
theorem dec_not (c : UInt8) (r : List UInt8) (hc : c.toNat = 48) (hr : 1 ≤ r.length) (hd : ∀ d ∈ c :: r, isDigit d = true) : Lib.decDigits (dv (c :: r)) ≠ c :: r := fun e => by
  have e2 : dv (c :: r) = dv r := by show dva (10 * 0 + (c.toNat - 48)) r = dva 0 r; rw [hc]
  have h1 := dv_lt r (fun d h => hd d (by simp [h]))
  have h2 := nDig_le r.length (dv r) h1 hr
  rw [← Lib.decDigits_length] at h2
  rw [e2] at e
  rw [e] at h2
  simp at h2
  omega
/-- What the document takes for no number. -/
def nBad (l : List UInt8) : Prop := nDigits l = [] ∨ 10 < (nDigits l).length ∨ (1 < (nDigits l).length ∧ ∃ c r, nDigits l = c :: r ∧ c.toNat = 48) ∨ (nSign l ≠ [] ∧ dv (nDigits l) = 0)
theorem nDigits_dig (l : List UInt8) : ∀ c ∈ nDigits l, isDigit c = true := fun c hc => by
  unfold nDigits at hc
  exact List.all_eq_true.1 (List.all_takeWhile (p := isDigit) (l := l.drop (nSign l).length)) c hc
theorem rnum_end {l0 : List UInt8} (hl : l0.dropWhile isBlank = []) : rNumber l0 = .fail true [] := by unfold rNumber; rw [hl]
theorem nSign_cases (c : UInt8) (r : List UInt8) : (nSign (c :: r) = [] ∧ c.toNat ≠ 45) ∨ (nSign (c :: r) = [c] ∧ c.toNat = 45) := by
  unfold nSign
  by_cases h : c.toNat = 45
  · exact Or.inr ⟨if_pos h, h⟩
  · exact Or.inl ⟨if_neg h, h⟩
def nVal (l : List UInt8) : Int := if nSign l = [] then (dv (nDigits l) : Int) else -(dv (nDigits l) : Int)
theorem mag_dv {ds : List UInt8} (h0 : ds ≠ []) (hd : ∀ c ∈ ds, isDigit c = true) (hl : ds.length ≤ 10) : Lib.parseMag ds = .ok (dv ds) ∧ dv ds < 10000000000 := by
  have h1 := dv_lt ds hd
  have h2 : (10 : Nat) ^ ds.length ≤ 10 ^ 10 := Nat.pow_le_pow_right (by omega) hl
  have h3 : (10 : Nat) ^ 10 = 10000000000 := by decide
  unfold Lib.parseMag
  rw [if_neg h0, parse_dva ds 0 hd (by show dv ds < _; omega)]
  exact ⟨rfl, by omega⟩
/-- How Atoi ends over a sign and digits, at most ten of them. -/
theorem atoi_dv (c : UInt8) (r : List UInt8) (h0 : nDigits (c :: r) ≠ []) (hl : (nDigits (c :: r)).length ≤ 10) : Lib.atoiAll (nSign (c :: r) ++ nDigits (c :: r)) = .ok (nVal (c :: r)) := by
  have hd := nDigits_dig (c :: r)
  obtain ⟨m1, m2⟩ := mag_dv h0 hd hl
  unfold nVal
  rcases nSign_cases c r with ⟨hs, hc⟩ | ⟨hs, hc⟩
  · rw [hs, if_pos rfl]
    generalize nDigits (c :: r) = ds at *
    cases ds with
    | nil => exact absurd rfl h0
    | cons x xs =>
      have hx := hd x (by simp)
      unfold isDigit at hx; simp at hx
      show Lib.atoiAll (x :: xs) = _
      unfold Lib.atoiAll
      simp only
      rw [if_neg (by omega), m1]
      simp only
      rw [if_neg (by omega), if_neg (by omega), if_neg (by omega)]
  · rw [hs, if_neg (by simp)]
    generalize nDigits (c :: r) = ds at *
    show Lib.atoiAll (c :: ds) = _
    unfold Lib.atoiAll
    simp only
    rw [if_pos (Or.inr hc), m1]
    simp only
    rw [if_neg (by omega), if_neg (by omega), if_pos hc]
theorem head_digit {c x : UInt8} {r xs : List UInt8} (h : nDigits (c :: r) = x :: xs) : ∀ d ∈ x :: xs, isDigit d = true := h ▸ nDigits_dig (c :: r)
/-- The numeral of what was read is what stands there, just if the document takes it for a number. -/
theorem itoa_dv (c : UInt8) (r : List UInt8) (h0 : nDigits (c :: r) ≠ []) (hl : (nDigits (c :: r)).length ≤ 10) : Lib.itoa (nVal (c :: r)) = nSign (c :: r) ++ nDigits (c :: r) ↔ ¬ nBad (c :: r) := by
  have hd := nDigits_dig (c :: r)
  unfold nVal nBad
  obtain ⟨x, xs, hx⟩ : ∃ x xs, nDigits (c :: r) = x :: xs := by
    cases h : nDigits (c :: r) with
    | nil => exact absurd h h0
    | cons x xs => exact ⟨x, xs, rfl⟩
  have hcan : Lib.decDigits (dv (x :: xs)) = x :: xs ↔ ¬ (1 < (x :: xs).length ∧ x.toNat = 48) := by
    rw [hx] at hd
    constructor
    · intro e ⟨h1, h2⟩
      exact dec_not x xs h2 (by simp at h1; exact h1) hd e
    · intro h
      refine (dec_dv xs.length (x :: xs) rfl hd ?_).1
      by_cases hz : xs.length = 0
      · exact Or.inl hz
      · exact Or.inr ⟨x, xs, rfl, fun e => h ⟨by simp; omega, e⟩⟩
  rw [hx] at hl ⊢
  have hlead : (∃ c' r', x :: xs = c' :: r' ∧ c'.toNat = 48) ↔ x.toNat = 48 := by
    constructor
    · rintro ⟨c', r', e, h⟩
      cases e; exact h
    · intro h; exact ⟨x, xs, rfl, h⟩
  rw [hlead]
  rcases nSign_cases c r with ⟨hs, hc⟩ | ⟨hs, hc⟩
  · rw [hs, if_pos rfl, Lib.itoa_nonneg, List.nil_append, hcan]
    constructor
    · intro h hh
      rcases hh with hh | hh | hh | hh
      · cases hh
      · omega
      · exact h hh
      · exact hh.1 rfl
    · intro h hh
      exact h (Or.inr (Or.inr (Or.inl hh)))
  · rw [hs, if_neg (by simp)]
    by_cases hz : dv (x :: xs) = 0
    · rw [hz]
      constructor
      · intro e
        exfalso
        have : Lib.itoa (-((0 : Nat) : Int)) = [48] := by
          show Lib.itoa 0 = _
          unfold Lib.itoa; rw [if_neg (by decide)]; show Lib.decDigits 0 = _; rw [Lib.decDigits_one (by omega)]; rfl
        rw [this] at e
        have e1 : (48 : UInt8) = c := by have := congrArg List.head? e; simpa using this
        rw [← e1] at hc; exact absurd hc (by decide)
      · intro h
        exact absurd (Or.inr (Or.inr (Or.inr ⟨by simp, rfl⟩))) h
    · rw [Lib.itoa_neg _ (by omega)]
      have e45 : c = 45 := UInt8.toNat_inj.1 (by rw [hc]; rfl)
      rw [e45]
      show (45 :: Lib.decDigits (dv (x :: xs)) = 45 :: (x :: xs)) ↔ _
      rw [List.cons.injEq, hcan]
      constructor
      · rintro ⟨_, h⟩ hh
        rcases hh with hh | hh | hh | hh
        · cases hh
        · omega
        · exact h hh
        · exact hz hh.2
      · intro h
        exact ⟨rfl, fun hh => h (Or.inr (Or.inr (Or.inl hh)))⟩
theorem rnum_ok {l0 r : List UInt8} {c : UInt8} (hl : l0.dropWhile isBlank = c :: r) (hb : ¬ nBad (c :: r)) : rNumber l0 = .ok (nVal (c :: r)) (nRest (c :: r)) := by
  have h0 : nDigits (c :: r) ≠ [] := fun e => hb (Or.inl e)
  have hlen : (nDigits (c :: r)).length ≤ 10 := Nat.le_of_not_lt fun e => hb (Or.inr (Or.inl e))
  unfold rNumber
  rw [hl]
  simp only
  rw [atoi_dv c r h0 hlen]
  simp only
  rw [if_pos ⟨hlen, (itoa_dv c r h0 hlen).2 hb⟩]
theorem rnum_no {l0 r : List UInt8} {c : UInt8} (hl : l0.dropWhile isBlank = c :: r) (hb : nBad (c :: r)) : rNumber l0 = .fail false (c :: r) := by
  unfold rNumber
  rw [hl]
  simp only
  by_cases h0 : nDigits (c :: r) = []
  · have e : Lib.atoiAll (nSign (c :: r) ++ nDigits (c :: r)) = .syntax := by
      rw [h0, List.append_nil]
      rcases nSign_cases c r with ⟨hs, hc⟩ | ⟨hs, hc⟩
      · rw [hs]; rfl
      · rw [hs]
        unfold Lib.atoiAll
        simp only
        rw [if_pos (Or.inr hc)]
        rfl
    rw [e]
  · by_cases hlen : (nDigits (c :: r)).length ≤ 10
    · rw [atoi_dv c r h0 hlen]
      simp only
      rw [if_neg (fun hh => (itoa_dv c r h0 hlen).1 hh.2 hb)]
    · split
      · rw [if_neg (fun hh => hlen hh.1)]
      · rfl
end Go.Proofs.YtkncpojijfeahaaGreatDoor
