/- What members know: who lives, where they lie, heads, who is ahead. No program in sight. -/
import Derived.Test.YtmajlldfiiokoaaGreatDoorRingMath
namespace Go.Proofs.YtmajlldfiiokoaaGreatDoor
set_option linter.unusedVariables false

/-- Does an address live? -/
def livesB (lv : List Bool) (n : Int) : Bool := decide (0 ≤ n) && lv.getD n.toNat false
/-- The place of an address; 0, if it has none. -/
def idI (ids : List Int) (n : Int) : Int := if 0 ≤ n then ids.getD n.toNat 0 else 0
/-- The first one that lives; -1: none. -/
def headI (lv : List Bool) : List Int → Int
  | [] => -1
  | n :: l => if livesB lv n then n else headI lv l
/-- Who is ahead, when n says that it is. -/
def rectI (lv : List Bool) (ids : List Int) (id pred n : Int) : Int := if !livesB lv pred || (n != -1 && withinB (idI ids n) (idI ids pred) id) then n else pred

theorem lives_in {lv : List Bool} {n : Int} (h : livesB lv n = true) : 0 ≤ n ∧ n < lv.length := by
  simp only [livesB, Bool.and_eq_true, decide_eq_true_eq] at h
  refine ⟨h.1, ?_⟩
  rcases Nat.lt_or_ge n.toNat lv.length with q | q
  · omega
  · simp [List.getD, List.getElem?_eq_none q] at h
theorem lives_neg {lv : List Bool} {n : Int} (h : n < 0) : livesB lv n = false := by
  simp only [livesB, Bool.and_eq_false_imp, decide_eq_true_eq]; omega
theorem lives_out {lv : List Bool} {n : Int} (h : (lv.length : Int) ≤ n) : livesB lv n = false := by
  have q : lv.length ≤ n.toNat := by omega
  simp [livesB, List.getD, List.getElem?_eq_none q]
theorem lives_at {lv : List Bool} {n : Int} (h : 0 ≤ n) : livesB lv n = lv.getD n.toNat false := by
  simp [livesB, h]
theorem id_neg {ids : List Int} {n : Int} (h : n < 0) : idI ids n = 0 := if_neg (by omega)
theorem id_out {ids : List Int} {n : Int} (h : (ids.length : Int) ≤ n) : idI ids n = 0 := by
  have q : ids.length ≤ n.toNat := by omega
  simp [idI, List.getD, List.getElem?_eq_none q]
theorem id_at {ids : List Int} {n : Int} (h : 0 ≤ n) : idI ids n = ids.getD n.toNat 0 := if_pos h

theorem head_drop (lv : List Bool) (l : List Int) (k : Nat) (hk : k < l.length) : headI lv (l.drop k) = if livesB lv (l.getD k 0) then l.getD k 0 else headI lv (l.drop (k + 1)) := by
  rw [List.drop_eq_getElem_cons hk]
  have e : l.getD k 0 = l[k] := by simp [List.getD, hk]
  rw [e]; rfl
end Go.Proofs.YtmajlldfiiokoaaGreatDoor
