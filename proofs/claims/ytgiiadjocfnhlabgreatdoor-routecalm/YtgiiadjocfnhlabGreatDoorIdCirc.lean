/- Round the circle and back. No program in sight. -/
import Derived.Test.YtgiiadjocfnhlabGreatDoorJoinPeSame
namespace Go.Proofs.YtgiiadjocfnhlabGreatDoor
set_option linter.unusedVariables false
theorem Cir.inj {R : Rg} {C : List Int} (h : Cir R C) {i j : Nat} (hi : i < C.length) (hj : j < C.length) (e : C.getD i 0 = C.getD j 0) : i = j := by
  rcases Nat.lt_trichotomy i j with q | q | q
  · have := Cir.lt h q hj; rw [e] at this; omega
  · exact q
  · have := Cir.lt h q hi; rw [e] at this; omega
theorem circ_fwd {n i0 i : Nat} (hn : 0 < n) : ((i0 + i) % n + 1) % n = (i0 + (i + 1)) % n := by rw [Nat.mod_add_mod]; congr 1
theorem circ_bck {n i0 i : Nat} (hi : i < n) : ((i0 + n - i) % n + n - 1) % n = (i0 + n - (i + 1)) % n := by
  have e : (i0 + n - i) % n + n - 1 = (i0 + n - i) % n + (n - 1) := by omega
  rw [e, Nat.mod_add_mod]
  have e2 : i0 + n - i + (n - 1) = i0 + n - (i + 1) + n := by omega
  rw [e2, Nat.add_mod_right]
theorem circ_ne {n i0 i : Nat} (h0 : i0 < n) (hi : 0 < i) (hn : i < n) : (i0 + i) % n ≠ i0 ∧ (i0 + n - i) % n ≠ i0 := by
  refine ⟨fun e => ?_, fun e => ?_⟩
  · by_cases q : i0 + i < n
    · rw [Nat.mod_eq_of_lt q] at e; omega
    · rw [Nat.mod_eq_sub_mod (by omega), Nat.mod_eq_of_lt (by omega)] at e; omega
  · by_cases q : i0 + n - i < n
    · rw [Nat.mod_eq_of_lt q] at e; omega
    · rw [Nat.mod_eq_sub_mod (by omega), Nat.mod_eq_of_lt (by omega)] at e; omega
end Go.Proofs.YtgiiadjocfnhlabGreatDoor
