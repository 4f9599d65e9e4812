/- Two texts that the document names, read. No program in sight. -/
import Derived.Test.YtkncpojijfeahaaGreatDoorJoinIsCode
namespace Go.Proofs.YtkncpojijfeahaaGreatDoor
open Go.RowKit
set_option linter.unusedVariables false

theorem num3 (r : List UInt8) : rNumber (32 :: 51 :: 46 :: r) = .ok 3 (46 :: r) := by
  have e1 : (32 :: 51 :: 46 :: r).dropWhile isBlank = 51 :: 46 :: r := rfl
  have e2 : nSign (51 :: 46 :: r) = [] := rfl
  have e3 : nDigits (51 :: 46 :: r) = [51] := rfl
  have e4 : nRest (51 :: 46 :: r) = 46 :: r := rfl
  have e5 : Lib.atoiAll [51] = .ok 3 := by decide
  have e6 : Lib.itoa 3 = [51] := by unfold Lib.itoa; rw [if_neg (by decide)]; show Lib.decDigits 3 = _; rw [Lib.decDigits, dif_pos (by decide)]; rfl
  unfold rNumber
  rw [e1]; simp only [e2, e3, e4, List.nil_append, e5, e6]
  rfl
theorem num9 (r : List UInt8) : rNumber (57 :: 32 :: r) = .ok 9 (32 :: r) := by
  have e1 : (57 :: 32 :: r).dropWhile isBlank = 57 :: 32 :: r := rfl
  have e2 : nSign (57 :: 32 :: r) = [] := rfl
  have e3 : nDigits (57 :: 32 :: r) = [57] := rfl
  have e4 : nRest (57 :: 32 :: r) = 32 :: r := rfl
  have e5 : Lib.atoiAll [57] = .ok 9 := by decide
  have e6 : Lib.itoa 9 = [57] := by unfold Lib.itoa; rw [if_neg (by decide)]; show Lib.decDigits 9 = _; rw [Lib.decDigits, dif_pos (by decide)]; rfl
  unfold rNumber
  rw [e1]; simp only [e2, e3, e4, List.nil_append, e5, e6]
  rfl
def lPrice : List UInt8 := [112, 114, 105, 99, 101]
def lTag : List UInt8 := [116, 97, 103]
def lTry : List UInt8 := [112, 114, 105, 99, 101, 32, 105, 110, 32, 51, 46, 46, 57, 32, 97, 110, 100, 32, 116, 97, 103, 32, 94, 61, 32, 34, 97, 34]
theorem nums39 (r : List UInt8) : rNums (105 :: 110 :: 32 :: 51 :: 46 :: 46 :: 57 :: 32 :: r) = .ok (3, 9) (32 :: r) := by
  have e1 : rThis [105, 110] (105 :: 110 :: 32 :: 51 :: 46 :: 46 :: 57 :: 32 :: r) = .ok () (32 :: 51 :: 46 :: 46 :: 57 :: 32 :: r) := rfl
  have e2 : rMark [46, 46] (46 :: 46 :: 57 :: 32 :: r) = .ok () (57 :: 32 :: r) := by
    have : (46 :: 46 :: 57 :: 32 :: r : List UInt8).dropWhile isBlank = 46 :: 46 :: 57 :: 32 :: r := rfl
    unfold rMark; rw [this]; simp
  unfold rNums
  rw [e1]; simp only [num3, e2, num9]
theorem pred1 : rPred lTry = .ok ⟨lPrice, 1, 3, 9, []⟩ [32, 97, 110, 100, 32, 116, 97, 103, 32, 94, 61, 32, 34, 97, 34] := by
  have e1 : rWord lTry = .ok lPrice [32, 105, 110, 32, 51, 46, 46, 57, 32, 97, 110, 100, 32, 116, 97, 103, 32, 94, 61, 32, 34, 97, 34] := rfl
  have e2 : rBegin [32, 105, 110, 32, 51, 46, 46, 57, 32, 97, 110, 100, 32, 116, 97, 103, 32, 94, 61, 32, 34, 97, 34] = .ok () [105, 110, 32, 51, 46, 46, 57, 32, 97, 110, 100, 32, 116, 97, 103, 32, 94, 61, 32, 34, 97, 34] := rfl
  unfold rPred
  rw [e1]; simp only [e2]
  unfold rAsk
  simp only
  rw [if_neg (by decide), if_neg (by decide), nums39]
theorem pred2 : rPred [32, 116, 97, 103, 32, 94, 61, 32, 34, 97, 34] = .ok ⟨lTag, 3, 0, 0, [97]⟩ [] := by
  have e1 : rWord [32, 116, 97, 103, 32, 94, 61, 32, 34, 97, 34] = .ok lTag [32, 94, 61, 32, 34, 97, 34] := rfl
  have e2 : rBegin [32, 94, 61, 32, 34, 97, 34] = .ok () [94, 61, 32, 34, 97, 34] := rfl
  have e3 : rMarkStr [94, 61] [94, 61, 32, 34, 97, 34] = .ok [97] [] := by
    have m1 : rMark [94, 61] [94, 61, 32, 34, 97, 34] = .ok () [32, 34, 97, 34] := by
      have : ([94, 61, 32, 34, 97, 34] : List UInt8).dropWhile isBlank = [94, 61, 32, 34, 97, 34] := rfl
      unfold rMark; rw [this]; simp
    have m2 : rMark [34] [32, 34, 97, 34] = .ok () [97, 34] := by
      have : ([32, 34, 97, 34] : List UInt8).dropWhile isBlank = [34, 97, 34] := rfl
      unfold rMark; rw [this]; simp
    unfold rMarkStr; rw [m1]; simp only
    unfold rStr; rw [m2]; simp only
    rw [chars_go _ _ _ (by decide) (by decide) (by decide), chars_q _ _ _ (by decide)]; rfl
  unfold rPred
  rw [e1]; simp only [e2]
  unfold rAsk
  simp only
  rw [if_neg (by decide), if_pos (by decide), e3]
theorem pars_try : pars lTry = .ok [⟨lPrice, 1, 3, 9, []⟩, ⟨lTag, 3, 0, 0, [97]⟩] [] := by
  have e1 : rThis [97, 110, 100] [32, 97, 110, 100, 32, 116, 97, 103, 32, 94, 61, 32, 34, 97, 34] = .ok () [32, 116, 97, 103, 32, 94, 61, 32, 34, 97, 34] := rfl
  have e2 : rThis [97, 110, 100] [] = .fail true [] := rfl
  unfold pars
  show rFil (27 + 1 + 1) [] lTry = _
  rw [rFil, pred1]; simp only [e1]
  rw [rFil, pred2]; simp only [e2]; rfl
theorem pars_price : pars lPrice = .fail true [] := by
  have e1 : rWord lPrice = .ok lPrice [] := rfl
  have e2 : rPred lPrice = .fail true [] := by unfold rPred; rw [e1]; rfl
  unfold pars
  show rFil (5 + 1) [] lPrice = _
  rw [rFil, e2]
end Go.Proofs.YtkncpojijfeahaaGreatDoor
