/- Filters' texts as lists of bytes: what the reader makes of them. No program in sight. -/
import Derived.Test.YtkncpojijfeahaaGreatDoorJoinBkMap
import Derived.Lib.AtoiAll
import Derived.Lib.ItoaNum
import Derived.WalkKit
import Derived.Test.YtkncpojijfeahaaGreatDoorRows
import Derived.ProofKit
import Derived.OpenShut
import Derived.WalkLawsBesides
import Derived.OneCell
import Derived.Deep.LoopGhost
import Derived.Deep.QuietTactic
import Derived.BigQuiet
import Derived.RegionTactic
import Derived.Outline
set_option linter.unnecessarySimpa false
namespace Go.Proofs.YtkncpojijfeahaaGreatDoor
open Go.RowKit

def isLetter (c : UInt8) : Bool := 97 ≤ c.toNat && c.toNat ≤ 122
def isDigit (c : UInt8) : Bool := 48 ≤ c.toNat && c.toNat ≤ 57
def alnum (c : UInt8) : Bool := isLetter c || isDigit c
def isBlank (c : UInt8) : Bool := c.toNat == 32
def isSign (c : UInt8) : Bool := c.toNat == 92 || c.toNat == 34

/-- What a reader's call comes to: something, and what is left; or an error (does the text end there?), and what is left. -/
inductive Ps (α : Type) where
  | ok (v : α) (l : List UInt8)
  | fail (e : Bool) (l : List UInt8)
def Ps.left {α : Type} : Ps α → List UInt8
  | .ok _ l => l
  | .fail _ l => l

def rBegin (l : List UInt8) : Ps Unit := match l.dropWhile isBlank with
  | [] => .fail true []
  | c :: r => .ok () (c :: r)
def rWord (l : List UInt8) : Ps (List UInt8) := match l.dropWhile isBlank with
  | [] => .fail true []
  | c :: r => if isLetter c then .ok ((c :: r).takeWhile alnum) ((c :: r).dropWhile alnum) else .fail false (c :: r)
def rThis (want : List UInt8) (l : List UInt8) : Ps Unit := match rWord l with
  | .ok v r => if v = want then .ok () r else .fail false (v ++ r)
  | .fail e r => .fail e r
def rMark (m : List UInt8) (l : List UInt8) : Ps Unit := match l.dropWhile isBlank with
  | [] => .fail true []
  | c :: r => if m <+: c :: r then .ok () ((c :: r).drop m.length) else .fail false (c :: r)
/-- The sign of a number, and its digits. -/
def nSign (l : List UInt8) : List UInt8 := match l with
  | c :: _ => if c.toNat = 45 then [c] else []
  | [] => []
def nDigits (l : List UInt8) : List UInt8 := (l.drop (nSign l).length).takeWhile isDigit
def nRest (l : List UInt8) : List UInt8 := (l.drop (nSign l).length).dropWhile isDigit
def rNumber (l : List UInt8) : Ps Int := match l.dropWhile isBlank with
  | [] => .fail true []
  | c :: r => match Lib.atoiAll (nSign (c :: r) ++ nDigits (c :: r)) with
    | .ok v => if (nDigits (c :: r)).length ≤ 10 ∧ Lib.itoa v = nSign (c :: r) ++ nDigits (c :: r) then .ok v (nRest (c :: r)) else .fail false (c :: r)
    | _ => .fail false (c :: r)
/-- The bytes of a string, up to its end. -/
def rChars (acc : List UInt8) : List UInt8 → Ps (List UInt8)
  | [] => .fail true []
  | c :: r =>
    if c.toNat = 34 then .ok acc r
    else if c.toNat < 32 ∨ 126 < c.toNat then .fail false (c :: r)
    else if c.toNat = 92 then match r with
      | [] => .fail false []
      | d :: r' => if isSign d then rChars (acc ++ [d]) r' else .fail false (d :: r')
    else rChars (acc ++ [c]) r
def rStr (l : List UInt8) : Ps (List UInt8) := match rMark [34] l with
  | .ok _ r => rChars [] r
  | .fail e r => .fail e r

theorem suffix_left {l r : List UInt8} (h : r <:+ l) : r = l.drop (l.length - r.length) := by
  obtain ⟨t, rfl⟩ := h
  simp
theorem rBegin_suf (l : List UInt8) : (rBegin l).left <:+ l := by
  unfold rBegin
  have h := List.dropWhile_suffix (p := isBlank) (l := l)
  split
  · exact List.nil_suffix
  · rename_i e; rw [e] at h; exact h
theorem rWord_suf (l : List UInt8) : (rWord l).left <:+ l := by
  unfold rWord
  have h := List.dropWhile_suffix (p := isBlank) (l := l)
  split
  · exact List.nil_suffix
  · rename_i e; rw [e] at h
    split
    · exact (List.dropWhile_suffix _).trans h
    · exact h
theorem rThis_suf (want l : List UInt8) : (rThis want l).left <:+ l := by
  unfold rThis
  have h := List.dropWhile_suffix (p := isBlank) (l := l)
  unfold rWord
  split
  · rename_i v r e
    split at e
    · cases e
    · rename_i c r' e'
      split at e
      · cases e
        rw [e'] at h
        split
        · exact (List.dropWhile_suffix _).trans h
        · show _ <:+ l
          simp only [Ps.left, List.takeWhile_append_dropWhile]; exact h
      · cases e
  · rename_i e' r e
    split at e
    · cases e; exact List.nil_suffix
    · rename_i c r' e''
      rw [e''] at h
      split at e
      · cases e
      · cases e; exact h
theorem rMark_suf (m l : List UInt8) : (rMark m l).left <:+ l := by
  unfold rMark
  have h := List.dropWhile_suffix (p := isBlank) (l := l)
  split
  · exact List.nil_suffix
  · rename_i e; rw [e] at h
    split
    · exact (List.drop_suffix _ _).trans h
    · exact h
theorem drop_cons (s : ByteArray) (k : Nat) (h : k < s.size) : s.data.toList.drop k = s[k] :: s.data.toList.drop (k + 1) := by
  rw [List.drop_eq_getElem_cons (by simpa using h)]; rfl
theorem drop_end (s : ByteArray) (k : Nat) (h : s.size ≤ k) : s.data.toList.drop k = [] := by simp; omega
end Go.Proofs.YtkncpojijfeahaaGreatDoor

/- The reader of package filter: begin, letter, digit, word, thisWord. -/
namespace Go.Proofs.YtkncpojijfeahaaGreatDoor
open Go.ChangeShapes Go.WideShapes Go.ChangeAt Go.RowKit
set_option linter.unusedVariables false

def dr (s : ByteArray) (k : Nat) : List UInt8 := s.data.toList.drop k
theorem dr_cons (s : ByteArray) (k : Nat) (h : k < s.size) : dr s k = s[k] :: dr s (k + 1) := drop_cons s k h
theorem dr_end (s : ByteArray) (k : Nat) (h : s.size ≤ k) : dr s k = [] := drop_end s k h

/-- A reader at block p: its text, its place. -/
structure Rd (w : World) (p : Nat) (s : ByteArray) (k : Nat) : Prop where
  box : w.heap[p]? = some (.cells #[.string s, .int .i64 (k : Int)] 175 (0, 0))
  le : k ≤ s.size
/-- Only the reader's block has turned. -/
structure Kp (w w' : World) (p : Nat) : Prop where
  os : w'.os = w.os
  tape : w'.tape = w.tape
  output : w'.output = w.output
  size : w.heap.size ≤ w'.heap.size
  block : ∀ k, k < w.heap.size → k ≠ p → w'.heap[k]? = w.heap[k]?
theorem Kp.refl (w : World) (p : Nat) : Kp w w p := ⟨rfl, rfl, rfl, Nat.le_refl _, fun _ _ _ => rfl⟩
theorem Kp.trans {a b c : World} {p : Nat} (h : Kp a b p) (k : Kp b c p) : Kp a c p :=
  ⟨k.os.trans h.os, k.tape.trans h.tape, k.output.trans h.output, Nat.le_trans h.size k.size, fun i hi hp => (k.block i (Nat.lt_of_lt_of_le hi h.size) hp).trans (h.block i hi hp)⟩
theorem Kp.ofBelow {w w' : World} {p : Nat} (h : Below w.heap.size w w') : Kp w w' p := ⟨h.os, h.tape, h.output, h.size, fun k hk _ => h.block k hk⟩
theorem Kp.below {B : Nat} {a w w' : World} {p : Nat} (h : Kp w w' p) (hb : Below B a w) (hB : B ≤ p) (hs : B ≤ w.heap.size) : Below B a w' :=
  hb.trans ⟨h.os, h.tape, h.output, h.size, fun k hk => h.block k (by omega) (by omega)⟩
theorem Kp.drewN {w w' : World} {p : Nat} (h : Kp w w' p) (n : Nat) : Kp w (w'.drewN n) p := ⟨h.os, h.tape, h.output, h.size, h.block⟩
theorem Rd.lt {w : World} {p : Nat} {s : ByteArray} {k : Nat} (h : Rd w p s k) : p < w.heap.size := lt_of_block h.box
theorem Rd.c0 {w : World} {p : Nat} {s : ByteArray} {k : Nat} (h : Rd w p s k) : w.cell? ⟨p, 0, none⟩ = some (.string s) := by simp [World.cell?, h.box]
theorem Rd.c1 {w : World} {p : Nat} {s : ByteArray} {k : Nat} (h : Rd w p s k) : w.cell? ⟨p, 1, none⟩ = some (.int .i64 (k : Int)) := by simp [World.cell?, h.box]
theorem Rd.fz {w : World} {p : Nat} {s : ByteArray} {k : Nat} (h : Rd w p s k) (o : Nat) : w.frozen? ⟨p, o, none⟩ = false := by simp [World.frozen?, h.box]
theorem Rd.below {w w' : World} {p : Nat} {s : ByteArray} {k : Nat} (h : Rd w p s k) (hb : Below w.heap.size w w') : Rd w' p s k := ⟨(hb.block p h.lt).trans h.box, h.le⟩
theorem Rd.drewN {w : World} {p : Nat} {s : ByteArray} {k : Nat} (h : Rd w p s k) (n : Nat) : Rd (w.drewN n) p s k := h.below ⟨rfl, rfl, rfl, Nat.le_refl _, fun _ _ => rfl⟩
theorem Rd.set {w : World} {p : Nat} {s : ByteArray} {k : Nat} (h : Rd w p s k) (j : Nat) (hj : j ≤ s.size) : Rd (w.setCell ⟨p, 1, none⟩ (.int .i64 (j : Int))) p s j := by
  refine ⟨?_, hj⟩
  have hlt := h.lt
  have h' : w.heap[p] = .cells #[.string s, .int .i64 (k : Int)] 175 (0, 0) := by simpa [Array.getElem?_eq_getElem hlt] using h.box
  show (w.heap.modify p _)[p]? = _
  rw [Array.getElem?_eq_getElem (by simpa using hlt), Array.getElem_modify_self, h']
  rfl
theorem Kp.set {w w' : World} {p o : Nat} (h : Kp w w' p) (v : Value) : Kp w (w'.setCell ⟨p, o, none⟩ v) p :=
  h.trans ⟨rfl, rfl, rfl, by simp [World.setCell], fun k _ hp => Below.heap_setCell _ _ _ _ (by simpa using hp)⟩

def ec (e : Bool) : Value := .iface 52 (.int .i64 (if e then 10 else 2))
def errV {α : Type} : Ps α → Value
  | .ok _ _ => .nilIface
  | .fail e _ => ec e

theorem blank_go (s : ByteArray) (k : Nat) (h : k < s.size) (hc : (s[k].toNat : Int) = 32) : (dr s k).dropWhile isBlank = (dr s (k + 1)).dropWhile isBlank := by
  rw [dr_cons s k h, List.dropWhile_cons, if_pos (by simp [isBlank]; omega)]
theorem blank_stop (s : ByteArray) (k : Nat) (h : k < s.size) (hc : ¬ (s[k].toNat : Int) = 32) : (dr s k).dropWhile isBlank = dr s k := by
  rw [dr_cons s k h, List.dropWhile_cons, if_neg (by simp [isBlank]; omega)]

set_option maxHeartbeats 1000000 in
theorem begin_any (p : Nat) (s : ByteArray) (k : Nat) (w : World) (h : Rd w p s k) (hs : s.size ≤ 1000) :
    Calls Tryz.prog 109 #[.pointer (some ⟨p, 0, none⟩)] w fun e w' => e = .returned (errV (rBegin (dr s k))) ∧ ∃ k', Rd w' p s k' ∧ dr s k' = (rBegin (dr s k)).left ∧ Kp w w' p := by
  have hk := h.le
  go_enter Tryz.func109, Tryz.ntmps109
  go_wp2_with fail
  go_loopg [] (s.size - k) (fun kx wr => ∃ j : Nat, j ≤ s.size ∧ kx = s.size - j ∧ Hid (Rd wr p s j ∧ Kp w wr p ∧ (dr s k).dropWhile isBlank = (dr s j).dropWhile isBlank))
  case atStart => exact ⟨k, hk, rfl, (⟨h, Kp.refl _ _, rfl⟩ : _ ∧ _ ∧ _)⟩
  case round =>
    obtain ⟨j, hj, hkx, I⟩ := hrel
    have x0 := I.out.1.c0
    have x1 := I.out.1.c1
    have xf := I.out.1.fz 1
    have xl := I.out.1.lt
    by_cases hlt : j < s.size
    · by_cases hc : (s[j].toNat : Int) = 32
      · have I2 : Hid (∀ n, Rd ((wr.drewN n).setCell ⟨p, 1, none⟩ (.int .i64 ((j + 1 : Nat) : Int))) p s (j + 1) ∧ Kp w ((wr.drewN n).setCell ⟨p, 1, none⟩ (.int .i64 ((j + 1 : Nat) : Int))) p ∧ (dr s k).dropWhile isBlank = (dr s (j + 1)).dropWhile isBlank) := fun n =>
          ⟨(I.out.1.drewN n).set (j + 1) (by omega), (I.out.2.1.drewN n).set _, I.out.2.2.trans (blank_go s j hlt hc)⟩
        go_wp2_with fail
        go_quiet (fail)
        go_wp2
        go_roundg (s.size - (j + 1))
        case measure => omega
        case rel => exact ⟨j + 1, by omega, rfl, (by simpa using I2.out _ : _ ∧ _ ∧ _)⟩
      · have hr : Hid (rBegin (dr s k) = .ok () (dr s j)) := by
          have e := I.out.2.2.trans (blank_stop s j hlt hc)
          show rBegin (dr s k) = .ok () (dr s j)
          unfold rBegin
          rw [e, dr_cons s j hlt]
        have hne : ¬ ((j : Int) = (s.size : Int)) := by omega
        go_wp2_with fail
        go_quiet (fail)
        go_wp2_with fail
        go_quiet (fail)
        go_wp2
        go_ret
        rw [hr.out]
        exact ⟨rfl, j, (I.out.1.drewN _).drewN _, rfl, (I.out.2.1.drewN _).drewN _⟩
    · obtain rfl : j = s.size := by omega
      have hr : Hid (rBegin (dr s k) = .fail true []) := by
        have e := I.out.2.2
        rw [dr_end s s.size (Nat.le_refl _)] at e
        show rBegin (dr s k) = .fail true []
        unfold rBegin
        rw [e]; rfl
      go_wp2_with fail
      go_quiet (fail)
      go_wp2_with fail
      go_quiet (fail)
      go_wp2
      go_ret
      rw [hr.out]
      exact ⟨rfl, s.size, I.out.1.drewN _, dr_end _ _ (Nat.le_refl _), I.out.2.1.drewN _⟩

theorem letter_any (c : UInt8) (w : World) : Calls Tryz.prog 113 #[.int .u8 (c.toNat : Int)] w fun e w' => e = .returned (.bool (isLetter c)) ∧ w' = w := by
  obtain ⟨n, hn⟩ : ∃ n, n = c.toNat := ⟨_, rfl⟩
  have HN : Hid (isLetter c = (decide (97 ≤ n) && decide (n ≤ 122))) := by rw [hn]; exact (rfl : isLetter c = _)
  rw [← hn]
  clear hn
  by_cases h1 : (97 : Int) ≤ (n : Int)
  all_goals
    go_enter Tryz.func113, Tryz.ntmps113
    go_wp2
    go_ret
    refine ⟨ret_b ?_, rfl⟩
    rw [HN.out, Bool.eq_iff_iff]
    simp <;> omega
theorem digit_any (c : UInt8) (w : World) : Calls Tryz.prog 114 #[.int .u8 (c.toNat : Int)] w fun e w' => e = .returned (.bool (isDigit c)) ∧ w' = w := by
  obtain ⟨n, hn⟩ : ∃ n, n = c.toNat := ⟨_, rfl⟩
  have HN : Hid (isDigit c = (decide (48 ≤ n) && decide (n ≤ 57))) := by rw [hn]; exact (rfl : isDigit c = _)
  rw [← hn]
  clear hn
  by_cases h1 : (48 : Int) ≤ (n : Int)
  all_goals
    go_enter Tryz.func114, Tryz.ntmps114
    go_wp2
    go_ret
    refine ⟨ret_b ?_, rfl⟩
    rw [HN.out, Bool.eq_iff_iff]
    simp <;> omega
theorem sign_any (c : UInt8) (w : World) : Calls Tryz.prog 118 #[.int .u8 (c.toNat : Int)] w fun e w' => e = .returned (.bool (isSign c)) ∧ w' = w := by
  obtain ⟨n, hn⟩ : ∃ n, n = c.toNat := ⟨_, rfl⟩
  have HN : Hid (isSign c = (n == 92 || n == 34)) := by rw [hn]; exact (rfl : isSign c = _)
  rw [← hn]
  clear hn
  by_cases h1 : n = 92
  · subst h1
    go_enter Tryz.func118, Tryz.ntmps118
    go_wp2
    go_ret
    refine ⟨ret_b ?_, rfl⟩
    rw [HN.out]; rfl
  · have h2 : ¬ (n : Int) = 92 := by omega
    go_enter Tryz.func118, Tryz.ntmps118
    go_wp2
    go_ret
    refine ⟨ret_b ?_, rfl⟩
    rw [HN.out]
    have e : (n == 92) = false := by simpa using h1
    rw [e, Bool.false_or, Bool.eq_iff_iff]
    simp <;> omega
theorem letter_is {b : Bool} (c : UInt8) (w : World) (h : isLetter c = b) : Calls Tryz.prog 113 #[.int .u8 (c.toNat : Int)] w fun e w' => e = .returned (.bool b) ∧ w' = w := by subst h; exact letter_any c w
theorem digit_is {b : Bool} (c : UInt8) (w : World) (h : isDigit c = b) : Calls Tryz.prog 114 #[.int .u8 (c.toNat : Int)] w fun e w' => e = .returned (.bool b) ∧ w' = w := by subst h; exact digit_any c w
theorem sign_is {b : Bool} (c : UInt8) (w : World) (h : isSign c = b) : Calls Tryz.prog 118 #[.int .u8 (c.toNat : Int)] w fun e w' => e = .returned (.bool b) ∧ w' = w := by subst h; exact sign_any c w
end Go.Proofs.YtkncpojijfeahaaGreatDoor

/- The reader of package filter: word, thisWord, mark. -/
namespace Go.Proofs.YtkncpojijfeahaaGreatDoor
open Go.ChangeShapes Go.WideShapes Go.ChangeAt Go.RowKit
set_option linter.unusedVariables false

def ba (l : List UInt8) : ByteArray := ⟨l.toArray⟩
theorem ext_ba (s : ByteArray) (k j : Nat) (h1 : k ≤ j) (h2 : j ≤ s.size) : s.extract k j = ba ((dr s k).take (j - k)) := by
  apply ByteArray.ext
  apply Array.ext'
  simp [ba, dr, List.take_drop]
theorem rBegin_ok {l r : List UInt8} (h : rBegin l = .ok () r) : l.dropWhile isBlank = r ∧ r ≠ [] := by
  unfold rBegin at h
  split at h
  · cases h
  · rename_i e; cases h; exact ⟨e, by simp⟩
theorem rBegin_fail {l r : List UInt8} {b : Bool} (h : rBegin l = .fail b r) : l.dropWhile isBlank = [] ∧ b = true ∧ r = [] := by
  unfold rBegin at h
  split at h
  · rename_i e; cases h; exact ⟨e, rfl, rfl⟩
  · cases h
def wordV : Ps (List UInt8) → Value
  | .ok v _ => .tuple #[.string (ba v), .nilIface]
  | .fail e _ => .tuple #[.string ⟨#[]⟩, ec e]
theorem lt_of_dr {s : ByteArray} {k : Nat} (h : dr s k ≠ []) : k < s.size := by
  rcases Nat.lt_or_ge k s.size with q | q
  · exact q
  · exact absurd (dr_end s k q) h
theorem word_go (s : ByteArray) (b j : Nat) (hb : b ≤ j) (h : j < s.size) (hc : alnum s[j] = true) (I1 : (dr s b).takeWhile alnum = (dr s b).take (j - b) ++ (dr s j).takeWhile alnum) (I2 : (dr s b).dropWhile alnum = (dr s j).dropWhile alnum) :
    (dr s b).takeWhile alnum = (dr s b).take (j + 1 - b) ++ (dr s (j + 1)).takeWhile alnum ∧ (dr s b).dropWhile alnum = (dr s (j + 1)).dropWhile alnum := by
  rw [dr_cons s j h] at I1 I2
  rw [List.takeWhile_cons, if_pos hc] at I1
  rw [List.dropWhile_cons, if_pos hc] at I2
  refine ⟨?_, I2⟩
  rw [I1]
  have hl : j - b < (dr s b).length := by simp [dr]; omega
  have e : (dr s b).take (j + 1 - b) = (dr s b).take (j - b) ++ [s[j]] := by
    rw [show j + 1 - b = (j - b) + 1 by omega, List.take_succ_eq_append_getElem hl]
    congr 2
    simp [dr]
    congr 1; omega
  rw [e, List.append_assoc]; rfl
theorem word_stop (s : ByteArray) (b j : Nat) (hc : (dr s j).takeWhile alnum = []) (h0 : (dr s j).dropWhile alnum = dr s j) (I1 : (dr s b).takeWhile alnum = (dr s b).take (j - b) ++ (dr s j).takeWhile alnum) (I2 : (dr s b).dropWhile alnum = (dr s j).dropWhile alnum) :
    (dr s b).takeWhile alnum = (dr s b).take (j - b) ∧ (dr s b).dropWhile alnum = dr s j := by
  rw [hc, List.append_nil] at I1
  rw [h0] at I2
  exact ⟨I1, I2⟩

set_option maxHeartbeats 2000000 in
theorem word_any (p : Nat) (s : ByteArray) (k : Nat) (w : World) (h : Rd w p s k) (hs : s.size ≤ 1000) :
    Calls Tryz.prog 108 #[.pointer (some ⟨p, 0, none⟩)] w fun e w' => e = .returned (wordV (rWord (dr s k))) ∧ ∃ k', Rd w' p s k' ∧ dr s k' = (rWord (dr s k)).left ∧ Kp w w' p := by
  go_enter Tryz.func108, Tryz.ntmps108
  go_wp2_with fail
  refine (begin_any p s k _ h hs).mono ?_
  rintro e w1 ⟨rfl, b, hR, hb, hK⟩
  cases hres : rBegin (dr s k) with
  | fail ee r =>
    obtain ⟨h1, rfl, rfl⟩ := rBegin_fail hres
    rw [hres] at hb
    have HW : Hid (rWord (dr s k) = .fail true []) := by
      show rWord (dr s k) = .fail true []
      unfold rWord; rw [h1]
    have HR : Hid (Rd w1 p s b ∧ dr s b = [] ∧ Kp w w1 p) := ⟨hR, hb, hK⟩
    clear h1 hb hR hK hres
    simp only [errV, ec]
    go_wp2
    go_ret2
    rw [HW.out]
    exact ⟨rfl, b, HR.out.1, HR.out.2.1, HR.out.2.2⟩
  | ok u r =>
    obtain ⟨h1, h2⟩ := rBegin_ok hres
    rw [hres] at hb
    have hb' : dr s b = r := hb
    rw [← hb'] at h1 h2
    have hlt := lt_of_dr h2
    have HD : Hid ((dr s k).dropWhile isBlank = dr s b) := h1
    have HR : Hid (Rd w1 p s b ∧ Kp w w1 p) := ⟨hR, hK⟩
    have x0 := hR.c0
    have x1 := hR.c1
    have xl := hR.lt
    clear h1 h2 hb hb' hR hK hres
    simp only [errV]
    cases hl : isLetter s[b] with
    | false =>
      have HW : Hid (rWord (dr s k) = .fail false (dr s b)) := by
        show rWord (dr s k) = .fail false (dr s b)
        unfold rWord; rw [HD.out, dr_cons s b hlt]; simp [hl]
      have HL : Hid (isLetter s[b] = false) := hl
      clear hl
      go_wp2_with fail
      go_quiet ((go_at_call 113; exact Calls.quiet_of_same (letter_is _ _ HL.out)))
      go_wp2
      go_ret2
      rw [HW.out]
      exact ⟨rfl, b, HR.out.1.drewN _, rfl, HR.out.2.drewN _⟩
    | true =>
      have HW : Hid (rWord (dr s k) = .ok ((dr s b).takeWhile alnum) ((dr s b).dropWhile alnum)) := by
        show rWord (dr s k) = .ok ((dr s b).takeWhile alnum) ((dr s b).dropWhile alnum)
        unfold rWord; rw [HD.out, dr_cons s b hlt]; simp [hl]
      have HL : Hid (isLetter s[b] = true) := hl
      clear hl
      go_wp2_with fail
      go_quiet ((go_at_call 113; exact Calls.quiet_of_same (letter_is _ _ HL.out)))
      go_wp2_with fail
      go_loopg [] (s.size - b) (fun kx wr => ∃ j : Nat, b ≤ j ∧ j ≤ s.size ∧ kx = s.size - j ∧ Hid (Rd wr p s j ∧ Kp w wr p ∧ (dr s b).takeWhile alnum = (dr s b).take (j - b) ++ (dr s j).takeWhile alnum ∧ (dr s b).dropWhile alnum = (dr s j).dropWhile alnum))
      case atStart => exact ⟨b, Nat.le_refl _, by omega, rfl, (⟨HR.out.1.drewN _, HR.out.2.drewN _, by simp, rfl⟩ : _ ∧ _ ∧ _ ∧ _)⟩
      case round =>
        obtain ⟨j, hbj, hj, hkx, I⟩ := hrel
        have y0 := I.out.1.c0
        have y1 := I.out.1.c1
        have yf := I.out.1.fz 1
        have yl := I.out.1.lt
        by_cases hlj : j < s.size
        · have go : ∀ (_ : alnum s[j] = true), Hid (∀ n, Rd ((wr.drewN n).setCell ⟨p, 1, none⟩ (.int .i64 ((j + 1 : Nat) : Int))) p s (j + 1) ∧ Kp w ((wr.drewN n).setCell ⟨p, 1, none⟩ (.int .i64 ((j + 1 : Nat) : Int))) p ∧ (dr s b).takeWhile alnum = (dr s b).take (j + 1 - b) ++ (dr s (j + 1)).takeWhile alnum ∧ (dr s b).dropWhile alnum = (dr s (j + 1)).dropWhile alnum) := fun ha n =>
            ⟨(I.out.1.drewN n).set (j + 1) (by omega), (I.out.2.1.drewN n).set _, word_go s b j hbj hlj ha I.out.2.2.1 I.out.2.2.2⟩
          have HGo : Hid _ := go
          clear go
          cases hl : isLetter s[j] with
          | true =>
            have HL2 : Hid (isLetter s[j] = true) := hl
            have I2 := HGo.out (by simp [alnum, hl])
            clear hl
            go_wp2_with fail
            go_quiet ((go_at_call 113; exact Calls.quiet_of_same (letter_is _ _ HL2.out)))
            go_wp2
            go_roundg (s.size - (j + 1))
            case measure => omega
            case rel => exact ⟨j + 1, by omega, by omega, rfl, (by simpa using I2.out _ : _ ∧ _ ∧ _ ∧ _)⟩
          | false =>
            cases hd : isDigit s[j] with
            | true =>
              have HL2 : Hid (isLetter s[j] = false) := hl
              have HL3 : Hid (isDigit s[j] = true) := hd
              have I2 := HGo.out (by simp [alnum, hd])
              clear hl hd
              go_wp2_with fail
              go_quiet (first
                | (go_at_call 113; exact Calls.quiet_of_same (letter_is _ _ HL2.out))
                | (go_at_call 114; exact Calls.quiet_of_same (digit_is _ _ HL3.out)))
              go_wp2
              go_roundg (s.size - (j + 1))
              case measure => omega
              case rel => exact ⟨j + 1, by omega, by omega, rfl, (by simpa using I2.out _ : _ ∧ _ ∧ _ ∧ _)⟩
            | false =>
              have HL2 : Hid (isLetter s[j] = false) := hl
              have HL3 : Hid (isDigit s[j] = false) := hd
              have HE : Hid ((dr s b).takeWhile alnum = (dr s b).take (j - b) ∧ (dr s b).dropWhile alnum = dr s j) := by
                have ha : alnum s[j] = false := by simp [alnum, hl, hd]
                refine word_stop s b j ?_ ?_ I.out.2.2.1 I.out.2.2.2
                · rw [dr_cons s j hlj, List.takeWhile_cons, if_neg (by simp [ha])]
                · rw [dr_cons s j hlj, List.dropWhile_cons, if_neg (by simp [ha])]
              clear hl hd
              go_wp2_with fail
              go_quiet (first
                | (go_at_call 113; exact Calls.quiet_of_same (letter_is _ _ HL2.out))
                | (go_at_call 114; exact Calls.quiet_of_same (digit_is _ _ HL3.out)))
              go_wp2_with fail
              go_quiet (fail)
              go_wp2
              go_ret2
              rw [HW.out]
              refine ⟨?_, j, (I.out.1.drewN _).drewN _, HE.out.2.symm, (I.out.2.1.drewN _).drewN _⟩
              simp only [wordV, HE.out.1]
              rw [← ext_ba s b j hbj hj]
              first | rfl | simp
        · obtain rfl : j = s.size := by omega
          have HE : Hid ((dr s b).takeWhile alnum = (dr s b).take (s.size - b) ∧ (dr s b).dropWhile alnum = dr s s.size) := by
            refine word_stop s b s.size ?_ ?_ I.out.2.2.1 I.out.2.2.2
            · rw [dr_end s _ (Nat.le_refl _)]; rfl
            · rw [dr_end s _ (Nat.le_refl _)]; rfl
          go_wp2_with fail
          go_quiet (fail)
          go_wp2_with fail
          go_quiet (fail)
          go_wp2
          go_ret2
          rw [HW.out]
          refine ⟨?_, s.size, (I.out.1.drewN _).drewN _, HE.out.2.symm, (I.out.2.1.drewN _).drewN _⟩
          simp only [wordV, HE.out.1]
          rw [← ext_ba s b s.size hbj hj]
          first | rfl | simp
end Go.Proofs.YtkncpojijfeahaaGreatDoor

/- The reader of package filter: thisWord, mark. -/
namespace Go.Proofs.YtkncpojijfeahaaGreatDoor
open Go.ChangeShapes Go.WideShapes Go.ChangeAt Go.RowKit
set_option linter.unusedVariables false

theorem dr_len (s : ByteArray) (k : Nat) : (dr s k).length = s.size - k := by simp [dr]
theorem dr_pos {s : ByteArray} {k : Nat} {l : List UInt8} (hk : k ≤ s.size) (h : dr s k = l) : k = s.size - l.length := by rw [← h, dr_len]; omega
theorem dr_suf {s : ByteArray} {k : Nat} {l : List UInt8} (h : l <:+ dr s k) : dr s (s.size - l.length) = l := by
  have h1 : l <:+ s.data.toList := h.trans (List.drop_suffix _ _)
  have := suffix_left h1
  simp only [dr]
  rw [show s.size - l.length = s.data.toList.length - l.length by simp]
  exact this.symm
theorem ba_list (l : List UInt8) : (ba l).data.toList = l := by simp [ba]
theorem ba_tl (l : List UInt8) : (ba l).toList = l := by simp [ba, ByteArray.toList_eq]
theorem ba_size (l : List UInt8) : (ba l).size = l.length := by simp [ba, ByteArray.size]

set_option maxHeartbeats 1000000 in
theorem this_any (p : Nat) (s want : ByteArray) (k : Nat) (w : World) (h : Rd w p s k) (hs : s.size ≤ 1000) :
    Calls Tryz.prog 94 #[.pointer (some ⟨p, 0, none⟩), .string want] w fun e w' => e = .returned (errV (rThis want.toList (dr s k))) ∧ ∃ k', Rd w' p s k' ∧ dr s k' = (rThis want.toList (dr s k)).left ∧ Kp w w' p := by
  go_enter Tryz.func94, Tryz.ntmps94
  go_wp2_with fail
  refine (word_any p s k _ h hs).mono ?_
  rintro e w1 ⟨rfl, b, hR, hb, hK⟩
  have hsuf := rThis_suf want.toList (dr s k)
  cases hres : rWord (dr s k) with
  | fail ee r =>
    rw [hres] at hb
    have HW : Hid (rThis want.toList (dr s k) = .fail ee r) := by
      show rThis want.toList (dr s k) = .fail ee r
      unfold rThis; rw [hres]
    have HR : Hid (Rd w1 p s b ∧ dr s b = r ∧ Kp w w1 p) := ⟨hR, hb, hK⟩
    clear hb hR hK hres hsuf
    cases ee
    all_goals
      simp only [wordV, ec]
      go_wp2
      go_ret
      rw [HW.out]
      exact ⟨rfl, b, HR.out.1, HR.out.2.1, HR.out.2.2⟩
  | ok v r =>
    rw [hres] at hb
    have hb' : dr s b = r := hb
    by_cases hv : v = want.toList
    · have HW : Hid (rThis want.toList (dr s k) = .ok () r) := by
        show rThis want.toList (dr s k) = .ok () r
        unfold rThis; rw [hres]; simp [hv]
      have HR : Hid (Rd w1 p s b ∧ dr s b = r ∧ Kp w w1 p) := ⟨hR, hb', hK⟩
      have e1 : (ba v).toList = want.toList := by rw [ba_tl]; exact hv
      clear hb hb' hR hK hres hsuf hv
      simp only [wordV]
      generalize ba v = V at e1
      go_wp2
      go_ret
      rw [HW.out]
      exact ⟨rfl, b, HR.out.1, HR.out.2.1, HR.out.2.2⟩
    · have hW : rThis want.toList (dr s k) = .fail false (v ++ r) := by
        unfold rThis; rw [hres]; simp [hv]
      rw [hW] at hsuf
      have hp := dr_suf hsuf
      have hbp := dr_pos hR.le hb'
      have hvl : (v ++ r).length ≤ s.size := by
        have := hsuf.length_le
        rw [dr_len] at this
        simp only [Ps.left] at this
        omega
      simp only [Ps.left] at hp
      have hlen : b - v.length = s.size - (v ++ r).length := by rw [hbp]; simp; omega
      have hvb : v.length ≤ b := by rw [hbp]; simp at hvl; omega
      have HW : Hid (rThis want.toList (dr s k) = .fail false (v ++ r)) := hW
      have HP : Hid (dr s (b - v.length) = v ++ r) := by rw [hlen]; exact hp
      have e1 : ¬ (ba v).toList = want.toList := by rw [ba_tl]; exact hv
      have e2 : ((ba v).toList == want.toList) = false := by simpa using e1
      have e3 : (ba v).size = v.length := ba_size v
      have x1 := hR.c1
      have xf := hR.fz 1
      have xl := hR.lt
      have hb1 := hR.le
      have HR : Hid (Rd w1 p s b ∧ Kp w w1 p) := ⟨hR, hK⟩
      clear hb hb' hR hK hres hsuf hv hW hp hbp hlen hvl
      simp only [wordV]
      generalize ba v = V at e1 e2 e3
      have hi : (b : Int) - (v.length : Int) = ((b - v.length : Nat) : Int) := by omega
      go_wp2
      go_ret
      rw [HW.out]
      refine ⟨rfl, b - v.length, ?_, HP.out, ?_⟩
      · have := HR.out.1.set (b - v.length) (by omega)
        first | exact this | (rw [← hi] at this; exact this) | simpa [e3] using this
      · exact HR.out.2.set _
end Go.Proofs.YtkncpojijfeahaaGreatDoor
