/- What came of all publishers, as a list; its last numbers; 64 bits. No program in sight. -/
import Derived.WalkKit
import Derived.Laws.Shifts
namespace Go.Proofs.Ytffdknjocmfmfaa
open Go.RowKit
set_option linter.unusedVariables false

/-- The greatest number that came of a publisher. -/
def lastL : List (Int × Int) → Int → Int
  | [], _ => 0
  | e :: L, p => if e.1 = p then max e.2 (lastL L p) else lastL L p
/-- Those that are events. -/
def EvOk (p n : Int) : Prop := 0 ≤ p ∧ p ≤ 31 ∧ 1 ≤ n ∧ n ≤ 1073741824
instance (p n : Int) : Decidable (EvOk p n) := by unfold EvOk; infer_instance
def WOk (L : List (Int × Int)) : Prop := ∀ e ∈ L, EvOk e.1 e.2

theorem lastL_nonneg (L : List (Int × Int)) (p : Int) : 0 ≤ lastL L p := by
  induction L with
  | nil => simp [lastL]
  | cons e L ih => unfold lastL; split <;> omega
theorem lastL_ge {L : List (Int × Int)} {p n : Int} (h : (p, n) ∈ L) : n ≤ lastL L p := by
  induction L with
  | nil => cases h
  | cons e L ih =>
    rcases List.mem_cons.1 h with h | h
    · subst h; simp [lastL]; omega
    · have := ih h; unfold lastL; split <;> omega
theorem lastL_snoc (L : List (Int × Int)) (q n p : Int) : lastL (L ++ [(q, n)]) p = if q = p then max (lastL L p) n else lastL L p := by
  induction L with
  | nil => by_cases h : q = p <;> simp [lastL, h]; omega
  | cons e L ih =>
    simp only [List.cons_append, lastL, ih]
    by_cases h : q = p <;> by_cases h2 : e.1 = p <;> simp [h, h2] <;> omega
theorem lastL_le {L : List (Int × Int)} (h : WOk L) (p : Int) : lastL L p ≤ 1073741824 := by
  induction L with
  | nil => simp [lastL]
  | cons e L ih =>
    have h1 := ih (fun x hx => h x (List.mem_cons_of_mem _ hx))
    have h2 := (h e (List.mem_cons_self ..)).2.2.2
    unfold lastL; split <;> omega
theorem WOk.snoc {L : List (Int × Int)} (h : WOk L) {p n : Int} (hn : EvOk p n) : WOk (L ++ [(p, n)]) := by
  intro e he
  rcases List.mem_append.1 he with he | he
  · exact h e he
  · rw [List.mem_singleton.1 he]; exact hn
theorem wok_nil : WOk [] := fun e he => by cases he

/-- What an event is: 1 new, 2 twice, 3 too old. -/
def whatL (L : List (Int × Int)) (p n : Int) : Int := if 64 ≤ lastL L p - n then 3 else if (p, n) ∈ L then 2 else 1
/-- What came, behind it. -/
def comeL (L : List (Int × Int)) (p n : Int) : List (Int × Int) := if 64 ≤ lastL L p - n then L else if (p, n) ∈ L then L else L ++ [(p, n)]
theorem comeL_ok {L : List (Int × Int)} (h : WOk L) {p n : Int} (hn : EvOk p n) : WOk (comeL L p n) := by
  unfold comeL; split
  · exact h
  · split
    · exact h
    · exact h.snoc hn
theorem comeL_new {L : List (Int × Int)} {p n : Int} (h : whatL L p n = 1) : comeL L p n = L ++ [(p, n)] := by
  unfold whatL at h; unfold comeL
  split at h
  · omega
  · rename_i h1
    rw [if_neg h1]
    split at h
    · omega
    · rename_i h2; rw [if_neg h2]
theorem comeL_not {L : List (Int × Int)} {p n : Int} (h : whatL L p n ≠ 1) : comeL L p n = L := by
  unfold whatL at h; unfold comeL
  split at h
  · rename_i h1; rw [if_pos h1]
  · rename_i h1
    rw [if_neg h1]
    split at h
    · rename_i h2; rw [if_pos h2]
    · omega
theorem whatL_range (L : List (Int × Int)) (p n : Int) : 1 ≤ whatL L p n ∧ whatL L p n ≤ 3 := by
  unfold whatL; split
  · omega
  · split <;> omega

/-- 64 bits say what came of the last numbers, from 'last' down. -/
def BitsAt (L : List (Int × Int)) (p last : Int) (c : Nat) : Prop := c < 18446744073709551616 ∧ ∀ k : Nat, k < 64 → c.testBit k = decide ((p, last - k) ∈ L)

theorem bits_none {L : List (Int × Int)} {p : Int} (h : ∀ n, (p, n) ∉ L) (last : Int) : BitsAt L p last 0 := by
  refine ⟨by omega, fun k hk => ?_⟩
  simp [h]
theorem lastL_none {L : List (Int × Int)} {p : Int} (h : ∀ n, (p, n) ∉ L) : lastL L p = 0 := by
  induction L with
  | nil => rfl
  | cons e L ih =>
    have hne : ¬ e.1 = p := fun q => h e.2 (by rw [← q]; exact List.mem_cons_self ..)
    unfold lastL
    rw [if_neg hne]
    exact ih (fun n hn => h n (List.mem_cons_of_mem _ hn))

/-- A greater number: the bits go up. -/
theorem bits_up {L : List (Int × Int)} {p n : Int} {c : Nat} (h : BitsAt L p (lastL L p) c) (hn : lastL L p < n) :
    BitsAt L p n (c * 2 ^ min (n - lastL L p).toNat 64 % 18446744073709551616) := by
  obtain ⟨s, hs⟩ : ∃ s : Nat, n = lastL L p + s := ⟨(n - lastL L p).toNat, by omega⟩
  have e : (n - lastL L p).toNat = s := by omega
  rw [e]
  refine ⟨Nat.mod_lt _ (by omega), fun k hk => ?_⟩
  rw [show (18446744073709551616 : Nat) = 2 ^ 64 from rfl, Nat.testBit_mod_two_pow, Nat.testBit_mul_two_pow]
  simp only [hk, decide_true, Bool.true_and]
  by_cases hks : s ≤ k
  · have hm : min s 64 = s := by omega
    rw [hm]
    have : ¬ k < s := by omega
    rw [h.2 (k - s) (by omega)]
    have e2 : lastL L p - ((k - s : Nat) : Int) = n - (k : Int) := by omega
    rw [e2]
    simp [hks]
  · have h1 : ¬ min s 64 ≤ k := by omega
    have h2 : (p, n - (k : Int)) ∉ L := fun q => by have := lastL_ge q; omega
    simp [h1, h2]
theorem and_pow (c k : Nat) : (c &&& 2 ^ k = 0) ↔ c.testBit k = false := by
  constructor
  · intro h
    have := congrArg (fun x => Nat.testBit x k) h
    simpa using this
  · intro h
    apply Nat.eq_of_testBit_eq
    intro i
    rw [Nat.testBit_and, Nat.testBit_two_pow, Nat.zero_testBit]
    by_cases q : k = i
    · subst q; simp [h]
    · simp [q]
/-- A number that is known: its bit. -/
theorem bits_said {L : List (Int × Int)} {p n last : Int} {c : Nat} (h : BitsAt L p last c) (h1 : n ≤ last) (h2 : last - n < 64) :
    (c &&& 2 ^ (last - n).toNat = 0) ↔ (p, n) ∉ L := by
  rw [and_pow, h.2 _ (by omega)]
  have e : last - (((last - n).toNat : Nat) : Int) = n := by omega
  rw [e]
  simp
/-- A number that wasn't: its bit from now on. -/
theorem bits_set {L : List (Int × Int)} {p n last : Int} {c : Nat} (h : BitsAt L p last c) (h1 : n ≤ last) (h2 : last - n < 64) (hl : lastL L p ≤ last) (hmax : last = n ∨ last = lastL L p) :
    lastL (L ++ [(p, n)]) p = last ∧ BitsAt (L ++ [(p, n)]) p last (c ||| 2 ^ (last - n).toNat) := by
  have e1 : lastL (L ++ [(p, n)]) p = last := by
    rw [lastL_snoc, if_pos rfl]; rcases hmax with hm | hm <;> omega
  refine ⟨e1, ?_, fun k hk => ?_⟩
  · exact Nat.or_lt_two_pow (n := 64) h.1 (Nat.pow_lt_pow_right (by omega) (by omega))
  · rw [Nat.testBit_or, h.2 k hk, Nat.testBit_two_pow]
    by_cases q : (last - n).toNat = k
    · have e : last - (k : Int) = n := by omega
      simp [q, e]
    · have e : ¬ last - (k : Int) = n := by omega
      simp [q, e]
/-- What another publisher says stays. -/
theorem bits_other {L : List (Int × Int)} {p q n last : Int} {c : Nat} (h : BitsAt L p last c) (hq : q ≠ p) : BitsAt (L ++ [(q, n)]) p last c := by
  refine ⟨h.1, fun k hk => ?_⟩
  rw [h.2 k hk]
  have : ¬ p = q := fun e => hq e.symm
  simp [this]
theorem lastL_other (L : List (Int × Int)) {p q : Int} (n : Int) (hq : q ≠ p) : lastL (L ++ [(q, n)]) p = lastL L p := by rw [lastL_snoc, if_neg hq]
theorem or_natW (x y : Nat) (hx : x < 18446744073709551616) (hy : y < 18446744073709551616) : bits .or .u64 (x : Int) (y : Int) = ((x ||| y : Nat) : Int) := by
  have l : x ||| y < 2 ^ 64 := Nat.or_lt_two_pow hx hy
  show IntKind.u64.wrap (((BitVec.ofInt 64 (x : Int)) ||| (BitVec.ofInt 64 (y : Int))).toNat : Int) = _
  rw [show BitVec.ofInt 64 (x : Int) = BitVec.ofNat 64 x from BitVec.ofInt_natCast .., show BitVec.ofInt 64 (y : Int) = BitVec.ofNat 64 y from BitVec.ofInt_natCast ..]
  rw [BitVec.toNat_or, BitVec.toNat_ofNat, BitVec.toNat_ofNat, Nat.mod_eq_of_lt (by simpa using hx), Nat.mod_eq_of_lt (by simpa using hy)]
  show ((x ||| y : Nat) : Int) % 18446744073709551616 = _
  omega
theorem and_natW (x y : Nat) (hx : x < 18446744073709551616) (hy : y < 18446744073709551616) : bits .and .u64 (x : Int) (y : Int) = ((x &&& y : Nat) : Int) := by
  have l : x &&& y ≤ x := Nat.and_le_left
  show IntKind.u64.wrap (((BitVec.ofInt 64 (x : Int)) &&& (BitVec.ofInt 64 (y : Int))).toNat : Int) = _
  rw [show BitVec.ofInt 64 (x : Int) = BitVec.ofNat 64 x from BitVec.ofInt_natCast .., show BitVec.ofInt 64 (y : Int) = BitVec.ofNat 64 y from BitVec.ofInt_natCast ..]
  rw [BitVec.toNat_and, BitVec.toNat_ofNat, BitVec.toNat_ofNat, Nat.mod_eq_of_lt (by simpa using hx), Nat.mod_eq_of_lt (by simpa using hy)]
  show ((x &&& y : Nat) : Int) % 18446744073709551616 = _
  omega
theorem shl_natW (c s : Nat) : IntKind.u64.wrap ((c : Int) * 2 ^ s) = ((c * 2 ^ s % 18446744073709551616 : Nat) : Int) := by
  show ((c : Int) * 2 ^ s) % 18446744073709551616 = _
  have e : ((c : Int) * 2 ^ s) = ((c * 2 ^ s : Nat) : Int) := by push_cast; rfl
  rw [e]; omega
theorem one_natW (s : Nat) (h : s < 64) : IntKind.u64.wrap ((1 : Int) * 2 ^ s) = ((2 ^ s : Nat) : Int) := by
  have := shl_natW 1 s
  have l : 2 ^ s < 2 ^ 64 := Nat.pow_lt_pow_right (by omega) h
  rw [show ((1 : Nat) : Int) = 1 from rfl] at this
  rw [this, Nat.one_mul, Nat.mod_eq_of_lt (by simpa using l)]
end Go.Proofs.Ytffdknjocmfmfaa
