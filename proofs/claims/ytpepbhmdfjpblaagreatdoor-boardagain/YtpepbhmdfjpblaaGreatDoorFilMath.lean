/- Filters' texts as lists of bytes: what the reader makes of them. No program in sight. -/
import Derived.Test.YtpepbhmdfjpblaaGreatDoorAid
import Derived.Lib.AtoiAll
import Derived.Lib.ItoaNum
import Derived.WalkKit
namespace Go.Proofs.YtpepbhmdfjpblaaGreatDoor
open Go.RowKit

def isLetter (c : UInt8) : Bool := 97 ≤ c.toNat && c.toNat ≤ 122
def isDigit (c : UInt8) : Bool := 48 ≤ c.toNat && c.toNat ≤ 57
def alnum (c : UInt8) : Bool := isLetter c || isDigit c
def isBlank (c : UInt8) : Bool := c.toNat == 32
def isSign (c : UInt8) : Bool := c.toNat == 92 || c.toNat == 34

/-- What a reader's call comes to: something, and what is left; or an error (does the text end there?), and what is left. -/
inductive Ps (α : Type) where
  | ok (v : α) (l : List UInt8)
  | fail (e : Bool) (l : List UInt8)
def Ps.left {α : Type} : Ps α → List UInt8
  | .ok _ l => l
  | .fail _ l => l

def rBegin (l : List UInt8) : Ps Unit := match l.dropWhile isBlank with
  | [] => .fail true []
  | c :: r => .ok () (c :: r)
def rWord (l : List UInt8) : Ps (List UInt8) := match l.dropWhile isBlank with
  | [] => .fail true []
  | c :: r => if isLetter c then .ok ((c :: r).takeWhile alnum) ((c :: r).dropWhile alnum) else .fail false (c :: r)
def rThis (want : List UInt8) (l : List UInt8) : Ps Unit := match rWord l with
  | .ok v r => if v = want then .ok () r else .fail false (v ++ r)
  | .fail e r => .fail e r
def rMark (m : List UInt8) (l : List UInt8) : Ps Unit := match l.dropWhile isBlank with
  | [] => .fail true []
  | c :: r => if m <+: c :: r then .ok () ((c :: r).drop m.length) else .fail false (c :: r)
/-- The sign of a number, and its digits. -/
def nSign (l : List UInt8) : List UInt8 := match l with
  | c :: _ => if c.toNat = 45 then [c] else []
  | [] => []
def nDigits (l : List UInt8) : List UInt8 := (l.drop (nSign l).length).takeWhile isDigit
def nRest (l : List UInt8) : List UInt8 := (l.drop (nSign l).length).dropWhile isDigit
def rNumber (l : List UInt8) : Ps Int := match l.dropWhile isBlank with
  | [] => .fail true []
  | c :: r => match Lib.atoiAll (nSign (c :: r) ++ nDigits (c :: r)) with
    | .ok v => if (nDigits (c :: r)).length ≤ 10 ∧ Lib.itoa v = nSign (c :: r) ++ nDigits (c :: r) then .ok v (nRest (c :: r)) else .fail false (c :: r)
    | _ => .fail false (c :: r)
/-- The bytes of a string, up to its end. -/
def rChars (acc : List UInt8) : List UInt8 → Ps (List UInt8)
  | [] => .fail true []
  | c :: r =>
    if c.toNat = 34 then .ok acc r
    else if c.toNat < 32 ∨ 126 < c.toNat then .fail false (c :: r)
    else if c.toNat = 92 then match r with
      | [] => .fail false []
      | d :: r' => if isSign d then rChars (acc ++ [d]) r' else .fail false (d :: r')
    else rChars (acc ++ [c]) r
def rStr (l : List UInt8) : Ps (List UInt8) := match rMark [34] l with
  | .ok _ r => rChars [] r
  | .fail e r => .fail e r

theorem suffix_left {l r : List UInt8} (h : r <:+ l) : r = l.drop (l.length - r.length) := by
  obtain ⟨t, rfl⟩ := h
  simp
theorem rBegin_suf (l : List UInt8) : (rBegin l).left <:+ l := by
  unfold rBegin
  have h := List.dropWhile_suffix (p := isBlank) (l := l)
  split
  · exact List.nil_suffix
  · rename_i e; rw [e] at h; exact h
theorem rWord_suf (l : List UInt8) : (rWord l).left <:+ l := by
  unfold rWord
  have h := List.dropWhile_suffix (p := isBlank) (l := l)
  split
  · exact List.nil_suffix
  · rename_i e; rw [e] at h
    split
    · exact (List.dropWhile_suffix _).trans h
    · exact h
theorem rThis_suf (want l : List UInt8) : (rThis want l).left <:+ l := by
  unfold rThis
  have h := List.dropWhile_suffix (p := isBlank) (l := l)
  unfold rWord
  split
  · rename_i v r e
    split at e
    · cases e
    · rename_i c r' e'
      split at e
      · cases e
        rw [e'] at h
        split
        · exact (List.dropWhile_suffix _).trans h
        · show _ <:+ l
          simp only [Ps.left, List.takeWhile_append_dropWhile]; exact h
      · cases e
  · rename_i e' r e
    split at e
    · cases e; exact List.nil_suffix
    · rename_i c r' e''
      rw [e''] at h
      split at e
      · cases e
      · cases e; exact h
theorem rMark_suf (m l : List UInt8) : (rMark m l).left <:+ l := by
  unfold rMark
  have h := List.dropWhile_suffix (p := isBlank) (l := l)
  split
  · exact List.nil_suffix
  · rename_i e; rw [e] at h
    split
    · exact (List.drop_suffix _ _).trans h
    · exact h
theorem drop_cons (s : ByteArray) (k : Nat) (h : k < s.size) : s.data.toList.drop k = s[k] :: s.data.toList.drop (k + 1) := by
  rw [List.drop_eq_getElem_cons (by simpa using h)]; rfl
theorem drop_end (s : ByteArray) (k : Nat) (h : s.size ≤ k) : s.data.toList.drop k = [] := by simp; omega
end Go.Proofs.YtpepbhmdfjpblaaGreatDoor
