/- The reader of package filter: begin, letter, digit, word, thisWord. -/
import Derived.Test.YtpepbhmdfjpblaaGreatDoorRows
import Derived.Test.YtpepbhmdfjpblaaGreatDoorFilMath
import Derived.WalkKit
import Derived.ProofKit
import Derived.OpenShut
import Derived.WalkLawsBesides
import Derived.OneCell
import Derived.Deep.LoopGhost
import Derived.Deep.QuietTactic
import Derived.BigQuiet
import Derived.RegionTactic
import Derived.Outline
namespace Go.Proofs.YtpepbhmdfjpblaaGreatDoor
open Go.ChangeShapes Go.WideShapes Go.ChangeAt Go.RowKit
set_option linter.unusedVariables false

def dr (s : ByteArray) (k : Nat) : List UInt8 := s.data.toList.drop k
theorem dr_cons (s : ByteArray) (k : Nat) (h : k < s.size) : dr s k = s[k] :: dr s (k + 1) := drop_cons s k h
theorem dr_end (s : ByteArray) (k : Nat) (h : s.size ≤ k) : dr s k = [] := drop_end s k h

/-- A reader at block p: its text, its place. -/
structure Rd (w : World) (p : Nat) (s : ByteArray) (k : Nat) : Prop where
  box : w.heap[p]? = some (.cells #[.string s, .int .i64 (k : Int)] 207 (0, 0))
  le : k ≤ s.size
/-- Only the reader's block has turned. -/
structure Kp (w w' : World) (p : Nat) : Prop where
  os : w'.os = w.os
  tape : w'.tape = w.tape
  output : w'.output = w.output
  size : w.heap.size ≤ w'.heap.size
  block : ∀ k, k < w.heap.size → k ≠ p → w'.heap[k]? = w.heap[k]?
theorem Kp.refl (w : World) (p : Nat) : Kp w w p := ⟨rfl, rfl, rfl, Nat.le_refl _, fun _ _ _ => rfl⟩
theorem Kp.trans {a b c : World} {p : Nat} (h : Kp a b p) (k : Kp b c p) : Kp a c p :=
  ⟨k.os.trans h.os, k.tape.trans h.tape, k.output.trans h.output, Nat.le_trans h.size k.size, fun i hi hp => (k.block i (Nat.lt_of_lt_of_le hi h.size) hp).trans (h.block i hi hp)⟩
theorem Kp.ofBelow {w w' : World} {p : Nat} (h : Below w.heap.size w w') : Kp w w' p := ⟨h.os, h.tape, h.output, h.size, fun k hk _ => h.block k hk⟩
theorem Kp.below {B : Nat} {a w w' : World} {p : Nat} (h : Kp w w' p) (hb : Below B a w) (hB : B ≤ p) (hs : B ≤ w.heap.size) : Below B a w' :=
  hb.trans ⟨h.os, h.tape, h.output, h.size, fun k hk => h.block k (by omega) (by omega)⟩
theorem Kp.drewN {w w' : World} {p : Nat} (h : Kp w w' p) (n : Nat) : Kp w (w'.drewN n) p := ⟨h.os, h.tape, h.output, h.size, h.block⟩
theorem Rd.lt {w : World} {p : Nat} {s : ByteArray} {k : Nat} (h : Rd w p s k) : p < w.heap.size := lt_of_block h.box
theorem Rd.c0 {w : World} {p : Nat} {s : ByteArray} {k : Nat} (h : Rd w p s k) : w.cell? ⟨p, 0, none⟩ = some (.string s) := by simp [World.cell?, h.box]
theorem Rd.c1 {w : World} {p : Nat} {s : ByteArray} {k : Nat} (h : Rd w p s k) : w.cell? ⟨p, 1, none⟩ = some (.int .i64 (k : Int)) := by simp [World.cell?, h.box]
theorem Rd.fz {w : World} {p : Nat} {s : ByteArray} {k : Nat} (h : Rd w p s k) (o : Nat) : w.frozen? ⟨p, o, none⟩ = false := by simp [World.frozen?, h.box]
theorem Rd.below {w w' : World} {p : Nat} {s : ByteArray} {k : Nat} (h : Rd w p s k) (hb : Below w.heap.size w w') : Rd w' p s k := ⟨(hb.block p h.lt).trans h.box, h.le⟩
theorem Rd.drewN {w : World} {p : Nat} {s : ByteArray} {k : Nat} (h : Rd w p s k) (n : Nat) : Rd (w.drewN n) p s k := h.below ⟨rfl, rfl, rfl, Nat.le_refl _, fun _ _ => rfl⟩
theorem Rd.set {w : World} {p : Nat} {s : ByteArray} {k : Nat} (h : Rd w p s k) (j : Nat) (hj : j ≤ s.size) : Rd (w.setCell ⟨p, 1, none⟩ (.int .i64 (j : Int))) p s j := by
  refine ⟨?_, hj⟩
  have hlt := h.lt
  have h' : w.heap[p] = .cells #[.string s, .int .i64 (k : Int)] 207 (0, 0) := by simpa [Array.getElem?_eq_getElem hlt] using h.box
  show (w.heap.modify p _)[p]? = _
  rw [Array.getElem?_eq_getElem (by simpa using hlt), Array.getElem_modify_self, h']
  rfl
theorem Kp.set {w w' : World} {p o : Nat} (h : Kp w w' p) (v : Value) : Kp w (w'.setCell ⟨p, o, none⟩ v) p :=
  h.trans ⟨rfl, rfl, rfl, by simp [World.setCell], fun k _ hp => Below.heap_setCell _ _ _ _ (by simpa using hp)⟩

def ec (e : Bool) : Value := .iface 36 (.int .i64 (if e then 10 else 2))
def errV {α : Type} : Ps α → Value
  | .ok _ _ => .nilIface
  | .fail e _ => ec e

theorem blank_go (s : ByteArray) (k : Nat) (h : k < s.size) (hc : (s[k].toNat : Int) = 32) : (dr s k).dropWhile isBlank = (dr s (k + 1)).dropWhile isBlank := by
  rw [dr_cons s k h, List.dropWhile_cons, if_pos (by simp [isBlank]; omega)]
theorem blank_stop (s : ByteArray) (k : Nat) (h : k < s.size) (hc : ¬ (s[k].toNat : Int) = 32) : (dr s k).dropWhile isBlank = dr s k := by
  rw [dr_cons s k h, List.dropWhile_cons, if_neg (by simp [isBlank]; omega)]

set_option maxHeartbeats 1000000 in
theorem begin_any (p : Nat) (s : ByteArray) (k : Nat) (w : World) (h : Rd w p s k) (hs : s.size ≤ 1000) :
    Calls Tryz.prog 112 #[.pointer (some ⟨p, 0, none⟩)] w fun e w' => e = .returned (errV (rBegin (dr s k))) ∧ ∃ k', Rd w' p s k' ∧ dr s k' = (rBegin (dr s k)).left ∧ Kp w w' p := by
  have hk := h.le
  go_enter Tryz.func112, Tryz.ntmps112
  go_wp2_with fail
  go_loopg [] (s.size - k) (fun kx wr => ∃ j : Nat, j ≤ s.size ∧ kx = s.size - j ∧ Hid (Rd wr p s j ∧ Kp w wr p ∧ (dr s k).dropWhile isBlank = (dr s j).dropWhile isBlank))
  case atStart => exact ⟨k, hk, rfl, (⟨h, Kp.refl _ _, rfl⟩ : _ ∧ _ ∧ _)⟩
  case round =>
    obtain ⟨j, hj, hkx, I⟩ := hrel
    have x0 := I.out.1.c0
    have x1 := I.out.1.c1
    have xf := I.out.1.fz 1
    have xl := I.out.1.lt
    by_cases hlt : j < s.size
    · by_cases hc : (s[j].toNat : Int) = 32
      · have I2 : Hid (∀ n, Rd ((wr.drewN n).setCell ⟨p, 1, none⟩ (.int .i64 ((j + 1 : Nat) : Int))) p s (j + 1) ∧ Kp w ((wr.drewN n).setCell ⟨p, 1, none⟩ (.int .i64 ((j + 1 : Nat) : Int))) p ∧ (dr s k).dropWhile isBlank = (dr s (j + 1)).dropWhile isBlank) := fun n =>
          ⟨(I.out.1.drewN n).set (j + 1) (by omega), (I.out.2.1.drewN n).set _, I.out.2.2.trans (blank_go s j hlt hc)⟩
        go_wp2_with fail
        go_quiet (fail)
        go_wp2
        go_roundg (s.size - (j + 1))
        case measure => omega
        case rel => exact ⟨j + 1, by omega, rfl, (by simpa using I2.out _ : _ ∧ _ ∧ _)⟩
      · have hr : Hid (rBegin (dr s k) = .ok () (dr s j)) := by
          have e := I.out.2.2.trans (blank_stop s j hlt hc)
          show rBegin (dr s k) = .ok () (dr s j)
          unfold rBegin
          rw [e, dr_cons s j hlt]
        have hne : ¬ ((j : Int) = (s.size : Int)) := by omega
        go_wp2_with fail
        go_quiet (fail)
        go_wp2_with fail
        go_quiet (fail)
        go_wp2
        go_ret
        rw [hr.out]
        exact ⟨rfl, j, (I.out.1.drewN _).drewN _, rfl, (I.out.2.1.drewN _).drewN _⟩
    · obtain rfl : j = s.size := by omega
      have hr : Hid (rBegin (dr s k) = .fail true []) := by
        have e := I.out.2.2
        rw [dr_end s s.size (Nat.le_refl _)] at e
        show rBegin (dr s k) = .fail true []
        unfold rBegin
        rw [e]; rfl
      go_wp2_with fail
      go_quiet (fail)
      go_wp2_with fail
      go_quiet (fail)
      go_wp2
      go_ret
      rw [hr.out]
      exact ⟨rfl, s.size, I.out.1.drewN _, dr_end _ _ (Nat.le_refl _), I.out.2.1.drewN _⟩

theorem letter_any (c : UInt8) (w : World) : Calls Tryz.prog 115 #[.int .u8 (c.toNat : Int)] w fun e w' => e = .returned (.bool (isLetter c)) ∧ w' = w := by
  obtain ⟨n, hn⟩ : ∃ n, n = c.toNat := ⟨_, rfl⟩
  have HN : Hid (isLetter c = (decide (97 ≤ n) && decide (n ≤ 122))) := by rw [hn]; exact (rfl : isLetter c = _)
  rw [← hn]
  clear hn
  by_cases h1 : (97 : Int) ≤ (n : Int)
  all_goals
    go_enter Tryz.func115, Tryz.ntmps115
    go_wp2
    go_ret
    refine ⟨ret_b ?_, rfl⟩
    rw [HN.out, Bool.eq_iff_iff]
    simp <;> omega
theorem digit_any (c : UInt8) (w : World) : Calls Tryz.prog 116 #[.int .u8 (c.toNat : Int)] w fun e w' => e = .returned (.bool (isDigit c)) ∧ w' = w := by
  obtain ⟨n, hn⟩ : ∃ n, n = c.toNat := ⟨_, rfl⟩
  have HN : Hid (isDigit c = (decide (48 ≤ n) && decide (n ≤ 57))) := by rw [hn]; exact (rfl : isDigit c = _)
  rw [← hn]
  clear hn
  by_cases h1 : (48 : Int) ≤ (n : Int)
  all_goals
    go_enter Tryz.func116, Tryz.ntmps116
    go_wp2
    go_ret
    refine ⟨ret_b ?_, rfl⟩
    rw [HN.out, Bool.eq_iff_iff]
    simp <;> omega
theorem sign_any (c : UInt8) (w : World) : Calls Tryz.prog 120 #[.int .u8 (c.toNat : Int)] w fun e w' => e = .returned (.bool (isSign c)) ∧ w' = w := by
  obtain ⟨n, hn⟩ : ∃ n, n = c.toNat := ⟨_, rfl⟩
  have HN : Hid (isSign c = (n == 92 || n == 34)) := by rw [hn]; exact (rfl : isSign c = _)
  rw [← hn]
  clear hn
  by_cases h1 : n = 92
  · subst h1
    go_enter Tryz.func120, Tryz.ntmps120
    go_wp2
    go_ret
    refine ⟨ret_b ?_, rfl⟩
    rw [HN.out]; rfl
  · have h2 : ¬ (n : Int) = 92 := by omega
    go_enter Tryz.func120, Tryz.ntmps120
    go_wp2
    go_ret
    refine ⟨ret_b ?_, rfl⟩
    rw [HN.out]
    have e : (n == 92) = false := by simpa using h1
    rw [e, Bool.false_or, Bool.eq_iff_iff]
    simp <;> omega
theorem letter_is {b : Bool} (c : UInt8) (w : World) (h : isLetter c = b) : Calls Tryz.prog 115 #[.int .u8 (c.toNat : Int)] w fun e w' => e = .returned (.bool b) ∧ w' = w := by subst h; exact letter_any c w
theorem digit_is {b : Bool} (c : UInt8) (w : World) (h : isDigit c = b) : Calls Tryz.prog 116 #[.int .u8 (c.toNat : Int)] w fun e w' => e = .returned (.bool b) ∧ w' = w := by subst h; exact digit_any c w
theorem sign_is {b : Bool} (c : UInt8) (w : World) (h : isSign c = b) : Calls Tryz.prog 120 #[.int .u8 (c.toNat : Int)] w fun e w' => e = .returned (.bool b) ∧ w' = w := by subst h; exact sign_any c w
end Go.Proofs.YtpepbhmdfjpblaaGreatDoor
