/- The circle of 2^64 places in plain numbers: distances, arcs, owners; no program in sight. -/
import Derived.KernelRfl
namespace Go.Proofs.YtmajlldfiiokoaaGreatDoor
set_option linter.unusedVariables false

def dist (a b : Int) : Int := (b - a) % 18446744073709551616
def inB (x a b : Int) : Bool := a == b || (x != a && decide (dist a x ≤ dist a b))
def withinB (x a b : Int) : Bool := x != a && (a == b || decide (dist a x < dist a b))

/-- The first place in a list that isn't below x; 0 if all are, -1 if there is none. -/
def ownerN (l : List Int) (x : Int) : Int :=
  match l with
  | [] => -1
  | _ :: _ => ((l.findIdx? fun y => decide (x ≤ y)).getD 0 : Nat)

theorem owner_hit (l : List Int) (x : Int) (k : Nat) (hk : k < l.length) (hlo : ∀ j, j < k → l.getD j 0 < x) (hx : x ≤ l.getD k 0) : ownerN l x = k := by
  have h : l.findIdx? (fun y => decide (x ≤ y)) = some k := by
    rw [List.findIdx?_eq_some_iff_getElem]
    refine ⟨hk, ?_, ?_⟩
    · have : l.getD k 0 = l[k] := by simp [List.getD, hk]
      rw [this] at hx; simpa using hx
    · intro j hj
      have h1 := hlo j hj
      have : l.getD j 0 = l[j]'(by omega) := by simp [List.getD, show j < l.length by omega]
      rw [this] at h1; simpa using h1
  cases l with
  | nil => simp at hk
  | cons y l => simp only [ownerN, h]; rfl

theorem owner_miss (l : List Int) (x : Int) (hp : 0 < l.length) (hlo : ∀ j, j < l.length → l.getD j 0 < x) : ownerN l x = 0 := by
  have h : l.findIdx? (fun y => decide (x ≤ y)) = none := by
    rw [List.findIdx?_eq_none_iff]
    intro y hy
    obtain ⟨j, hj, rfl⟩ := List.getElem_of_mem hy
    have h1 := hlo j hj
    have : l.getD j 0 = l[j] := by simp [List.getD, hj]
    rw [this] at h1; simpa using h1
  cases l with
  | nil => simp at hp
  | cons y l => simp only [ownerN, h]; rfl


theorem dist_rng (a b : Int) : 0 ≤ dist a b ∧ dist a b < 18446744073709551616 := by unfold dist; omega

theorem dist_round (a b : Int) : (dist a b + dist b a) % 18446744073709551616 = 0 := by unfold dist; omega

theorem dist_self (a : Int) : dist a a = 0 := by unfold dist; simp

theorem within_of (x a b : Int) (hx : x ≠ a) (hab : a ≠ b) : withinB x a b = decide (dist a x < dist a b) := by
  rw [withinB, bne_iff_ne.2 hx, beq_eq_false_iff_ne.2 hab]; simp

theorem in_of (x a b : Int) (hx : x ≠ a) (hab : a ≠ b) : inB x a b = decide (dist a x ≤ dist a b) := by
  rw [inB, bne_iff_ne.2 hx, beq_eq_false_iff_ne.2 hab]; simp

theorem round_not (a b x : Int) (ha : 0 ≤ a ∧ a ≤ 18446744073709551615) (hb : 0 ≤ b ∧ b ≤ 18446744073709551615) (hx : 0 ≤ x ∧ x ≤ 18446744073709551615)
    (h1 : a ≠ b) (h2 : x ≠ a) (h3 : x ≠ b) : withinB x b a = !withinB x a b := by
  rw [within_of x a b h2 h1, within_of x b a h3 (Ne.symm h1)]
  by_cases h : dist a x < dist a b
  · have : ¬ dist b x < dist b a := by unfold dist at *; omega
    simp [h, this]
  · have : dist b x < dist b a := by unfold dist at *; omega
    simp [h, this]

theorem round_in (a b x : Int) (ha : 0 ≤ a ∧ a ≤ 18446744073709551615) (hb : 0 ≤ b ∧ b ≤ 18446744073709551615) (hx : 0 ≤ x ∧ x ≤ 18446744073709551615)
    (h1 : a ≠ b) (h2 : x ≠ a) (h3 : x ≠ b) : inB x a b = withinB x a b := by
  rw [within_of x a b h2 h1, in_of x a b h2 h1]
  by_cases h : dist a x < dist a b
  · have : dist a x ≤ dist a b := by omega
    simp [h, this]
  · have : ¬ dist a x ≤ dist a b := by unfold dist at *; omega
    simp [h, this]

theorem round_turn (a b x : Int) (ha : 0 ≤ a ∧ a ≤ 18446744073709551615) (hb : 0 ≤ b ∧ b ≤ 18446744073709551615) (hx : 0 ≤ x ∧ x ≤ 18446744073709551615)
    (h1 : a ≠ b) (h2 : x ≠ a) (h3 : x ≠ b) : withinB b a x = withinB a x b := by
  rw [within_of b a x (Ne.symm h1) (Ne.symm h2), within_of a x b (Ne.symm h2) h3]
  by_cases h : dist x a < dist x b
  · have : dist a b < dist a x := by unfold dist at *; omega
    simp [h, this]
  · have : ¬ dist a b < dist a x := by unfold dist at *; omega
    simp [h, this]

/-- Where finger n of x begins. -/
def startN (x n : Int) : Int := if n < 0 ∨ 63 < n then x else (x + 2 ^ n.toNat) % 18446744073709551616

theorem start_out (x n : Int) (h : n < 0 ∨ 63 < n) : startN x n = x := by rw [startN, if_pos h]
theorem start_in (x n : Int) (h0 : 0 ≤ n) (h1 : n ≤ 63) : startN x n = (x + 2 ^ n.toNat) % 18446744073709551616 := by rw [startN, if_neg (by omega)]

theorem pow_lt_M (k : Nat) (h : k ≤ 63) : (2 : Int) ^ k < 18446744073709551616 := by
  have h1 : (2 : Nat) ^ k ≤ 2 ^ 63 := Nat.pow_le_pow_right (by omega) h
  have h2 : ((2 : Nat) ^ k : Int) ≤ ((2 ^ 63 : Nat) : Int) := by exact_mod_cast h1
  have h3 : ((2 ^ 63 : Nat) : Int) = 9223372036854775808 := by decide
  rw [h3] at h2
  have h4 : (((2 : Nat) ^ k : Nat) : Int) = (2 : Int) ^ k := by simp
  omega

theorem pow_pos_k (k : Nat) : 0 < (2 : Int) ^ k := Int.pow_pos (by omega)

theorem dist_start (x n : Int) (h0 : 0 ≤ n) (h1 : n ≤ 63) : dist x (startN x n) = 2 ^ n.toNat := by
  rw [start_in x n h0 h1]
  have a := pow_lt_M n.toNat (by omega)
  have b := pow_pos_k n.toNat
  generalize (2 : Int) ^ n.toNat = y at *
  unfold dist; omega

theorem fingers_double (x n : Int) (h0 : 1 ≤ n) (h1 : n ≤ 63) : dist x (startN x n) = (2 * dist x (startN x (n - 1))) % 18446744073709551616 := by
  rw [dist_start x n (by omega) h1, dist_start x (n - 1) (by omega) (by omega)]
  have e : n.toNat = (n - 1).toNat + 1 := by omega
  have a := pow_lt_M n.toNat (by omega)
  have b := pow_pos_k n.toNat
  rw [e] at a b ⊢
  rw [Int.pow_succ] at a b ⊢
  generalize (2 : Int) ^ (n - 1).toNat = y at *
  omega

theorem finger_zero (x : Int) : dist x (startN x 0) = 1 := by rw [dist_start x 0 (by omega) (by omega)]; rfl

theorem start_rng (x n : Int) (hx : 0 ≤ x ∧ x ≤ 18446744073709551615) : 0 ≤ startN x n ∧ startN x n ≤ 18446744073709551615 := by
  by_cases h : n < 0 ∨ 63 < n
  · rw [start_out x n h]; exact hx
  · rw [start_in x n (by omega) (by omega)]; omega

theorem dist_turned (a b y : Int) : dist ((a + y) % 18446744073709551616) ((b + y) % 18446744073709551616) = dist a b := by unfold dist; omega

theorem beq_turned (a b y : Int) (ha : 0 ≤ a ∧ a ≤ 18446744073709551615) (hb : 0 ≤ b ∧ b ≤ 18446744073709551615) :
    ((a + y) % 18446744073709551616 == (b + y) % 18446744073709551616) = (a == b) := by
  by_cases h : a = b
  · subst h; simp
  · rw [beq_eq_false_iff_ne.2 h]; exact beq_eq_false_iff_ne.2 (by omega)

theorem bne_turned (a b y : Int) (ha : 0 ≤ a ∧ a ≤ 18446744073709551615) (hb : 0 ≤ b ∧ b ≤ 18446744073709551615) :
    ((a + y) % 18446744073709551616 != (b + y) % 18446744073709551616) = (a != b) := by
  rw [bne, beq_turned a b y ha hb]; rfl

theorem in_turned (x a b y : Int) (hx : 0 ≤ x ∧ x ≤ 18446744073709551615) (ha : 0 ≤ a ∧ a ≤ 18446744073709551615) (hb : 0 ≤ b ∧ b ≤ 18446744073709551615) :
    inB ((x + y) % 18446744073709551616) ((a + y) % 18446744073709551616) ((b + y) % 18446744073709551616) = inB x a b := by
  unfold inB; rw [beq_turned a b y ha hb, bne_turned x a y hx ha, dist_turned, dist_turned]

theorem within_turned (x a b y : Int) (hx : 0 ≤ x ∧ x ≤ 18446744073709551615) (ha : 0 ≤ a ∧ a ≤ 18446744073709551615) (hb : 0 ≤ b ∧ b ≤ 18446744073709551615) :
    withinB ((x + y) % 18446744073709551616) ((a + y) % 18446744073709551616) ((b + y) % 18446744073709551616) = withinB x a b := by
  unfold withinB; rw [beq_turned a b y ha hb, bne_turned x a y hx ha, dist_turned, dist_turned]

theorem chain_sum (a b c : Int) (h : inB b a c = true) (hac : a ≠ c) : (dist a b + dist b c) % 18446744073709551616 = dist a c ∧ dist a b ≤ dist a c := by
  refine ⟨by unfold dist; omega, ?_⟩
  unfold inB at h
  rw [beq_eq_false_iff_ne.2 hac] at h
  simp only [Bool.false_or, Bool.and_eq_true, decide_eq_true_eq] at h
  exact h.2

end Go.Proofs.YtmajlldfiiokoaaGreatDoor
