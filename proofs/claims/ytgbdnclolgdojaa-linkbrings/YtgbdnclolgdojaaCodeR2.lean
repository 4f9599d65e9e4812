/- What code.Reader's Err and Done do. -/
import Derived.Test.YtgbdnclolgdojaaCodeR
import Derived.RegionTactic
import Derived.ChangeAlike
import Derived.BigRegion
namespace Go.Proofs.Ytgbdnclolgdojaa
open Go.ChangeShapes Go.WideShapes Go.ChangeAt Go.RowKit
set_option linter.unusedVariables false

theorem rnumber_stuck (q : Nat) (s : ByteArray) (at' c : Nat) (w : World) (h : Rd w q s at' c) (hc : c ≠ 0) :
    Calls Try.prog 37 #[.pointer (some ⟨q, 0, none⟩)] w fun e w' => e = .returned (.int .u64 0) ∧ w' = w := by
  have h2 := h.code
  have hb : ((c : Int) != 0) = true := bne_iff_ne.2 (by omega)
  go_enter Try.func37, Try.ntmps37
  go_wp2
  go_ret
  exact ⟨rfl, rfl⟩

theorem rd_lt (l : List UInt8) (n k cd : Nat) (h : rdNum 0 0 l = (n, k, cd)) : n < 18446744073709551616 := by
  by_cases hc : cd = 0
  · obtain ⟨m, h1, h2, _⟩ := rd_one 0 0 l (by omega) (by rw [h]; exact hc)
    rw [h] at h1; simp at h1 h2; omega
  · have := rd_err 0 0 l (by rw [h]; exact hc)
    rw [h] at this; simp at this; omega

theorem err_nil (q : Nat) (s : ByteArray) (at' : Nat) (w : World) (h : Rd w q s at' 0) :
    Calls Try.prog 39 #[.pointer (some ⟨q, 0, none⟩)] w fun e w' => e = .returned .nilIface ∧ w' = w := by
  have h2 := h.code
  go_enter Try.func39, Try.ntmps39
  go_wp2
  go_ret
  exact ⟨rfl, rfl⟩

theorem err_some (q : Nat) (s : ByteArray) (at' c : Nat) (w : World) (h : Rd w q s at' c) (hc : c ≠ 0) :
    Calls Try.prog 39 #[.pointer (some ⟨q, 0, none⟩)] w
      fun e w' => e = .returned (.iface 87 (.pointer (some ⟨w.heap.size, 0, none⟩))) ∧ ∃ m, w' = (w.alloc (.cells #[.string ⟨#[99, 111, 100, 101]⟩, .int .i64 at', .iface 59 (.int .i64 c)] 89)).drewN m := by
  have h0 := h.text
  have h1 := h.at
  have h2 := h.code
  have hb : ((c : Int) == 0) = false := beq_eq_false_iff_ne.2 (by omega)
  go_enter Try.func39, Try.ntmps39
  go_wp2
  go_region
  all_goals (try go_wp2)
  all_goals go_ret
  all_goals exact ⟨rfl, 1, rfl⟩

/-- What a call leaves as it was: all old blocks but q. -/
structure Adds (w w' : World) (q : Nat) : Prop where
  os : w'.os = w.os
  tape : w'.tape = w.tape
  output : w'.output = w.output
  size : w.heap.size ≤ w'.heap.size
  block : ∀ k, k < w.heap.size → k ≠ q → w'.heap[k]? = w.heap[k]?
theorem Adds.refl (w : World) (q : Nat) : Adds w w q := ⟨rfl, rfl, rfl, Nat.le_refl _, fun _ _ _ => rfl⟩
theorem Adds.trans {a b c : World} {q : Nat} (h : Adds a b q) (k : Adds b c q) : Adds a c q :=
  ⟨k.os.trans h.os, k.tape.trans h.tape, k.output.trans h.output, Nat.le_trans h.size k.size, fun i hi hq => (k.block i (Nat.lt_of_lt_of_le hi h.size) hq).trans (h.block i hi hq)⟩
theorem Same.adds {w w' : World} {q : Nat} (h : Same w w' q) : Adds w w' q := ⟨h.os, h.tape, h.output, by rw [h.size]; exact Nat.le_refl _, fun k _ hk => h.block k hk⟩
theorem Adds.alloc (w : World) (q : Nat) (o : Obj) : Adds w (w.alloc o) q := ⟨rfl, rfl, rfl, by simp, fun k hk _ => Below.heap_alloc w o k hk⟩
theorem Adds.drewN (w : World) (q n : Nat) : Adds w (w.drewN n) q := (Same.drewN w q n).adds
theorem Adds.below {B : Nat} {a w w' : World} {q : Nat} (h : Adds w w' q) (hq : B ≤ q) (hB : B ≤ w.heap.size) (hb : Below B a w) : Below B a w' :=
  hb.trans ⟨h.os, h.tape, h.output, h.size, fun k hk => h.block k (by omega) (by omega)⟩
theorem Rd.alloc {w : World} {q : Nat} {s : ByteArray} {at' c : Nat} (h : Rd w q s at' c) (o : Obj) : Rd (w.alloc o) q s at' c :=
  (Below.heap_alloc w o q h.lt).trans h

/-- An error with code c. -/
def IsFault (w : World) (v : Value) (c : Nat) : Prop :=
  ∃ (g at' : Nat), v = .iface 87 (.pointer (some ⟨g, 0, none⟩)) ∧ w.heap[g]? = some (.cells #[.string ⟨#[99, 111, 100, 101]⟩, .int .i64 at', .iface 59 (.int .i64 c)] 89 (0, 0))

theorem err_fault (q : Nat) (s : ByteArray) (at' c : Nat) (w : World) (h : Rd w q s at' c) (hc : c ≠ 0) :
    Calls Try.prog 39 #[.pointer (some ⟨q, 0, none⟩)] w
      fun e w' => ∃ g, e = .returned (.iface 87 (.pointer (some ⟨g, 0, none⟩))) ∧ IsFault w' (.iface 87 (.pointer (some ⟨g, 0, none⟩))) c ∧ w.heap.size ≤ g ∧ Rd w' q s at' c ∧ Adds w w' q := by
  refine (err_some q s at' c w h hc).mono ?_
  rintro e w' ⟨rfl, m, rfl⟩
  exact ⟨w.heap.size, rfl, ⟨w.heap.size, at', rfl, heap_alloc_new w _⟩, Nat.le_refl _, (h.alloc _).drewN m, (Adds.alloc w q _).trans (Adds.drewN _ _ _)⟩

theorem done_nil (q : Nat) (s : ByteArray) (at' : Nat) (w : World) (h : Rd w q s at' 0) (ha : ¬ at' < s.size) :
    Calls Try.prog 33 #[.pointer (some ⟨q, 0, none⟩)] w fun e w' => e = .returned .nilIface ∧ Rd w' q s at' 0 ∧ Adds w w' q := by
  have h0 := h.text
  have h1 := h.at
  have h2 := h.code
  have ha : ¬ (at' : Int) < (s.size : Int) := by omega
  go_enter Try.func33, Try.ntmps33
  go_wp2_with fail
  go_quiet (fail)
  go_wp2_with fail
  refine (err_nil q s at' _ (h.drewN _)).mono ?_
  rintro e w' ⟨rfl, rfl⟩
  go_wp2
  go_ret
  exact ⟨rfl, h.drewN _, Adds.drewN _ _ _⟩

theorem done_left (q : Nat) (s : ByteArray) (at' : Nat) (w : World) (h : Rd w q s at' 0) (ha : at' < s.size) :
    Calls Try.prog 33 #[.pointer (some ⟨q, 0, none⟩)] w
      fun e w' => ∃ g, e = .returned (.iface 87 (.pointer (some ⟨g, 0, none⟩))) ∧ IsFault w' (.iface 87 (.pointer (some ⟨g, 0, none⟩))) 11 ∧ w.heap.size ≤ g ∧ Rd w' q s at' 11 ∧ Adds w w' q := by
  have h0 := h.text
  have h1 := h.at
  have h2 := h.code
  have hf := h.free
  have hq := h.lt
  have ha : (at' : Int) < (s.size : Int) := by omega
  go_enter Try.func33, Try.ntmps33
  go_wp2_with fail
  go_quiet (fail)
  go_wp2_with fail
  refine (err_fault q s at' 11 _ ((h.drewN _).setCode 11) (by omega)).mono ?_
  rintro e w' ⟨g, rfl, hF, hg, hR, hA⟩
  go_wp2
  go_ret
  exact ⟨g, rfl, hF, by simpa [World.setCell] using hg, hR, ((Same.drewN _ _ _).trans (Same.setCell _ _ _ _)).adds.trans hA⟩

theorem done_stuck (q : Nat) (s : ByteArray) (at' c : Nat) (w : World) (h : Rd w q s at' c) (hc : c ≠ 0) :
    Calls Try.prog 33 #[.pointer (some ⟨q, 0, none⟩)] w
      fun e w' => ∃ g, e = .returned (.iface 87 (.pointer (some ⟨g, 0, none⟩))) ∧ IsFault w' (.iface 87 (.pointer (some ⟨g, 0, none⟩))) c ∧ w.heap.size ≤ g ∧ Rd w' q s at' c ∧ Adds w w' q := by
  have h0 := h.text
  have h1 := h.at
  have h2 := h.code
  have hb : ((c : Int) == 0) = false := beq_eq_false_iff_ne.2 (by omega)
  go_enter Try.func33, Try.ntmps33
  go_wp2_with fail
  go_quiet (fail)
  go_wp2_with fail
  refine (err_fault q s at' c _ (h.drewN _) hc).mono ?_
  rintro e w' ⟨g, rfl, hF, hg, hR, hA⟩
  go_wp2
  go_ret
  exact ⟨g, rfl, hF, hg, hR, (Adds.drewN _ _ _).trans hA⟩

end Go.Proofs.Ytgbdnclolgdojaa
