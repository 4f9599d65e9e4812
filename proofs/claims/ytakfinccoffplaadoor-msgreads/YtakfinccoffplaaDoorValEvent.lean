/- value.Schema.Event: is an event one of the schema's? -/
import Derived.Test.YtakfinccoffplaaDoorValFind
import Derived.Test.YtakfinccoffplaaDoorFam
namespace Go.Proofs.YtakfinccoffplaaDoor
open Go.ChangeShapes Go.WideShapes Go.ChangeAt Go.RowKit
set_option linter.unusedVariables false

/-- A call's error: none, if P; else a fault of ErrSchema. -/
def ErrIf (e : Ending) (w : World) (P : Prop) : Prop :=
  (e = .returned .nilIface ∧ P) ∨ ∃ (b : Nat) (n : Int), e = .returned (.iface 124 (.pointer (some ⟨b, 0, none⟩))) ∧ ¬ P ∧
    w.heap[b]? = some (.cells #[.string ⟨#[118, 97, 108, 117, 101]⟩, .int .i64 n, .iface 40 (.int .i64 3)] 126 (0, 0))
theorem ErrIf.ok {w : World} {P : Prop} (h : P) : ErrIf (.returned .nilIface) w P := .inl ⟨rfl, h⟩
theorem ErrIf.bad {w : World} {P : Prop} {n : Int} (h : ¬ P) : ErrIf (.returned (.iface 124 (.pointer (some ⟨w.heap.size, 0, none⟩)))) (w.alloc (.cells #[.string ⟨#[118, 97, 108, 117, 101]⟩, .int .i64 n, .iface 40 (.int .i64 3)] 126)) P :=
  .inr ⟨_, _, rfl, h, heap_alloc_new w _⟩
theorem ErrIf.bad2 {w : World} {o : Obj} {P : Prop} {n : Int} (h : ¬ P) : ErrIf (.returned (.iface 124 (.pointer (some ⟨w.heap.size + 1, 0, none⟩)))) ((w.alloc o).alloc (.cells #[.string ⟨#[118, 97, 108, 117, 101]⟩, .int .i64 n, .iface 40 (.int .i64 3)] 126)) P := by
  have := heap_alloc_new (w.alloc o) (.cells #[.string ⟨#[118, 97, 108, 117, 101]⟩, .int .i64 n, .iface 40 (.int .i64 3)] 126)
  have e : (w.alloc o).heap.size = w.heap.size + 1 := by simp
  rw [e] at this
  exact .inr ⟨_, _, rfl, h, this⟩
theorem ErrIf.t {e : Ending} {w : World} {P : Prop} (h : ErrIf e w P) (hp : P) : e = .returned .nilIface := by
  rcases h with ⟨rfl, _⟩ | ⟨_, _, _, hn, _⟩
  · rfl
  · exact absurd hp hn
theorem ErrIf.f {e : Ending} {w : World} {P : Prop} (h : ErrIf e w P) (hp : ¬ P) : ∃ b, e = .returned (.iface 124 (.pointer (some ⟨b, 0, none⟩))) := by
  rcases h with ⟨_, hn⟩ | ⟨b, _, rfl, _⟩
  · exact absurd hn hp
  · exact ⟨b, rfl⟩
theorem Says.t {e : Ending} {P : Prop} (h : Says e P) (hp : P) : e = .returned (.bool true) := by
  obtain ⟨b, rfl, hb⟩ := h
  rw [hb.mpr hp]
theorem Says.f {e : Ending} {P : Prop} (h : Says e P) (hp : ¬ P) : e = .returned (.bool false) := by
  obtain ⟨b, rfl, hb⟩ := h
  cases b
  · rfl
  · exact absurd (hb.mp rfl) hp

end Go.Proofs.YtakfinccoffplaaDoor
