/- The circle of 2^64 places in plain numbers: distances, arcs, owners; no program in sight. -/
import Derived.KernelRfl
namespace Go.Proofs.YtmajlldfiiokoaaGreatDoor
set_option linter.unusedVariables false

def dist (a b : Int) : Int := (b - a) % 18446744073709551616
def inB (x a b : Int) : Bool := a == b || (x != a && decide (dist a x ≤ dist a b))
def withinB (x a b : Int) : Bool := x != a && (a == b || decide (dist a x < dist a b))

/-- The first place in a list that isn't below x; 0 if all are, -1 if there is none. -/
def ownerN (l : List Int) (x : Int) : Int :=
  match l with
  | [] => -1
  | _ :: _ => ((l.findIdx? fun y => decide (x ≤ y)).getD 0 : Nat)

theorem owner_hit (l : List Int) (x : Int) (k : Nat) (hk : k < l.length) (hlo : ∀ j, j < k → l.getD j 0 < x) (hx : x ≤ l.getD k 0) : ownerN l x = k := by
  have h : l.findIdx? (fun y => decide (x ≤ y)) = some k := by
    rw [List.findIdx?_eq_some_iff_getElem]
    refine ⟨hk, ?_, ?_⟩
    · have : l.getD k 0 = l[k] := by simp [List.getD, hk]
      rw [this] at hx; simpa using hx
    · intro j hj
      have h1 := hlo j hj
      have : l.getD j 0 = l[j]'(by omega) := by simp [List.getD, show j < l.length by omega]
      rw [this] at h1; simpa using h1
  cases l with
  | nil => simp at hk
  | cons y l => simp only [ownerN, h]; rfl

theorem owner_miss (l : List Int) (x : Int) (hp : 0 < l.length) (hlo : ∀ j, j < l.length → l.getD j 0 < x) : ownerN l x = 0 := by
  have h : l.findIdx? (fun y => decide (x ≤ y)) = none := by
    rw [List.findIdx?_eq_none_iff]
    intro y hy
    obtain ⟨j, hj, rfl⟩ := List.getElem_of_mem hy
    have h1 := hlo j hj
    have : l.getD j 0 = l[j] := by simp [List.getD, hj]
    rw [this] at h1; simpa using h1
  cases l with
  | nil => simp at hp
  | cons y l => simp only [ownerN, h]; rfl


theorem dist_rng (a b : Int) : 0 ≤ dist a b ∧ dist a b < 18446744073709551616 := by unfold dist; omega

theorem dist_self (a : Int) : dist a a = 0 := by unfold dist; simp

theorem within_of (x a b : Int) (hx : x ≠ a) (hab : a ≠ b) : withinB x a b = decide (dist a x < dist a b) := by
  rw [withinB, bne_iff_ne.2 hx, beq_eq_false_iff_ne.2 hab]; simp

theorem round_not (a b x : Int) (ha : 0 ≤ a ∧ a ≤ 18446744073709551615) (hb : 0 ≤ b ∧ b ≤ 18446744073709551615) (hx : 0 ≤ x ∧ x ≤ 18446744073709551615)
    (h1 : a ≠ b) (h2 : x ≠ a) (h3 : x ≠ b) : withinB x b a = !withinB x a b := by
  rw [within_of x a b h2 h1, within_of x b a h3 (Ne.symm h1)]
  by_cases h : dist a x < dist a b
  · have : ¬ dist b x < dist b a := by unfold dist at *; omega
    simp [h, this]
  · have : dist b x < dist b a := by unfold dist at *; omega
    simp [h, this]

theorem round_turn (a b x : Int) (ha : 0 ≤ a ∧ a ≤ 18446744073709551615) (hb : 0 ≤ b ∧ b ≤ 18446744073709551615) (hx : 0 ≤ x ∧ x ≤ 18446744073709551615)
    (h1 : a ≠ b) (h2 : x ≠ a) (h3 : x ≠ b) : withinB b a x = withinB a x b := by
  rw [within_of b a x (Ne.symm h1) (Ne.symm h2), within_of a x b (Ne.symm h2) h3]
  by_cases h : dist x a < dist x b
  · have : dist a b < dist a x := by unfold dist at *; omega
    simp [h, this]
  · have : ¬ dist a b < dist a x := by unfold dist at *; omega
    simp [h, this]

end Go.Proofs.YtmajlldfiiokoaaGreatDoor
