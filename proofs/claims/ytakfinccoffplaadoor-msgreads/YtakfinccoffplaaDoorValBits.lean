/- value.wrong, attrInForm, valueOf, predOf, takes: one attribute, one value, one predicate. -/
import Derived.Test.YtakfinccoffplaaDoorValName
namespace Go.Proofs.YtakfinccoffplaaDoor
open Go.ChangeShapes Go.WideShapes Go.ChangeAt Go.RowKit
set_option linter.unusedVariables false

theorem below1 (w : World) (o : Obj) : Below w.heap.size w (w.alloc o) := (Below.refl _ _).alloc (Nat.le_refl _) _
theorem below2 (w : World) (o o' : Obj) : Below w.heap.size w ((w.alloc o).alloc o') := (below1 w o).alloc (by simp) _

theorem attr_k1 {nm : ByteArray} {mn mx : Int} (h : NameOk nm) : AttrOk ⟨nm, 1, mn, mx⟩ ↔ (-2147483648 ≤ mn ∧ mn ≤ mx ∧ mx ≤ 2147483648) := by simp [AttrOk, h]
theorem attr_k2 {nm : ByteArray} {mn mx : Int} (h : NameOk nm) : AttrOk ⟨nm, 2, mn, mx⟩ ↔ (mn = 0 ∧ mx = 0) := by simp [AttrOk, h]
theorem attr_k0 {nm : ByteArray} {k mn mx : Int} (h1 : k ≠ 1) (h2 : k ≠ 2) : AttrOk ⟨nm, k, mn, mx⟩ ↔ False := by simp [AttrOk, h1, h2]
theorem val_k1 {nm s : ByteArray} {mn mx n : Int} : ValOk ⟨nm, 1, mn, mx⟩ ⟨n, s⟩ ↔ (mn ≤ n ∧ n ≤ mx ∧ s = ByteArray.empty) := by simp [ValOk]
theorem val_k2 {nm s : ByteArray} {mn mx n : Int} : ValOk ⟨nm, 2, mn, mx⟩ ⟨n, s⟩ ↔ (StrOk s ∧ n = 0) := by simp [ValOk]
theorem val_k0 {nm s : ByteArray} {k mn mx n : Int} (h1 : k ≠ 1) (h2 : k ≠ 2) : ValOk ⟨nm, k, mn, mx⟩ ⟨n, s⟩ ↔ False := by simp [ValOk, h1, h2]

theorem empty_list (s : ByteArray) : s.toList = [] ↔ s = ByteArray.empty := by
  constructor
  · intro h
    have : s.data.toList = [] := by simpa [ByteArray.toList_eq] using h
    cases s with | mk d => simp at this; subst this; rfl
  · rintro rfl; simp [ByteArray.toList_eq]

end Go.Proofs.YtakfinccoffplaaDoor
