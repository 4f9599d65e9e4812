/- The document's reader (wigwagref02.Open, ReadNumber, ReadInt, ReadBelow, ReadText, Done): a cursor goes in, a cursor comes out. -/
import Derived.Test.YticdikllfkfkfaaDoorCodeRI
import Derived.Test.YticdikllfkfkfaaDoorCodeRT
namespace Go.Proofs.YticdikllfkfkfaaDoor
open Go.ChangeShapes Go.WideShapes Go.ChangeAt Go.RowKit
set_option linter.unusedVariables false

/-- A cursor's value. -/
abbrev curV (s : ByteArray) (at' c : Nat) : Value := .agg #[.string s, .int .i64 at', .int .i64 c]
/-- A cursor at block q. -/
def Cu (w : World) (q : Nat) (s : ByteArray) (at' c : Nat) : Prop :=
  w.heap[q]? = some (.cells #[.string s, .int .i64 at', .int .i64 c] 27 (0, 0))

section
variable {w : World} {q : Nat} {s : ByteArray} {at' c : Nat}
theorem Cu.lt (h : Cu w q s at' c) : q < w.heap.size := lt_of_block h
theorem Cu.text (h : Cu w q s at' c) : w.cell? ⟨q, 0, none⟩ = some (.string s) := by unfold Cu at h; simp [World.cell?, h]
theorem Cu.at (h : Cu w q s at' c) : w.cell? ⟨q, 1, none⟩ = some (.int .i64 at') := by unfold Cu at h; simp [World.cell?, h]
theorem Cu.code (h : Cu w q s at' c) : w.cell? ⟨q, 2, none⟩ = some (.int .i64 c) := by unfold Cu at h; simp [World.cell?, h]
theorem Cu.free (h : Cu w q s at' c) (o : Nat) : w.frozen? ⟨q, o, none⟩ = false := by unfold Cu at h; simp [World.frozen?, h]
theorem Cu.alloc (h : Cu w q s at' c) (o : Obj) : Cu (w.alloc o) q s at' c := (Below.heap_alloc w o q h.lt).trans h
theorem Cu.drewN (h : Cu w q s at' c) (n : Nat) : Cu (w.drewN n) q s at' c := h
theorem Cu.drew (h : Cu w q s at' c) : Cu w.drew q s at' c := h
theorem Cu.below {w' : World} (h : Cu w q s at' c) (hb : Below w.heap.size w w') : Cu w' q s at' c := (hb.block q h.lt).trans h
theorem Cu.setAt (h : Cu w q s at' c) (x : Nat) : Cu (w.setCell ⟨q, 1, none⟩ (.int .i64 x)) q s x c := by
  have hlt := h.lt
  have h' : w.heap[q] = .cells #[.string s, .int .i64 at', .int .i64 c] 27 (0, 0) := by
    unfold Cu at h; simpa [Array.getElem?_eq_getElem hlt] using h
  show (w.heap.modify q _)[q]? = _
  rw [Array.getElem?_eq_getElem (by simpa using hlt), Array.getElem_modify_self, h']
  rfl
end

theorem cu_new (w : World) (s : ByteArray) (at' c : Nat) : Cu (w.alloc (.cells #[.string s, .int .i64 at', .int .i64 c] 27)) w.heap.size s at' c := heap_alloc_new w _

theorem copen_any (s : ByteArray) (w : World) :
    Calls Tryd.prog 9 #[.string s] w fun e w' => e = .returned (curV s 0 0) ∧ Below w.heap.size w w' := by
  go_enter Tryd.func9, Tryd.ntmps9
  go_wp2
  exact bodyPost_ret (v := curV s 0 0) (by simp [results, Tryd.results9, go_sem]) rfl ⟨rfl, (Below.refl _ _).alloc (Nat.le_refl _) _⟩

theorem cnumber_stuck (s : ByteArray) (at' c : Nat) (w : World) (hc : c ≠ 0) :
    Calls Tryd.prog 12 #[curV s at' c] w fun e w' => e = .returned (.tuple #[curV s at' c, .int .u64 0]) ∧ Below w.heap.size w w' := by
  have hb : ((c : Int) == 0) = false := beq_eq_false_iff_ne.2 (by omega)
  go_enter Tryd.func12, Tryd.ntmps12
  go_wp2
  refine wp_loop_rounds 1 ?_
  rw [rounds_succ]
  go_wp2
  exact bodyPost_ret (v := .tuple #[curV s at' c, .int .u64 0]) (by simp [results, Tryd.results12, go_sem]) rfl ⟨rfl, ((Below.refl _ _).alloc (Nat.le_refl _) _).alloc (by simp) _⟩
end Go.Proofs.YticdikllfkfkfaaDoor
