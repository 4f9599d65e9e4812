/- What wigwaglaw02.put and write do: a thing's bytes are written, or told by the document. -/
import Derived.Test.YtcclfibojmfjgacCodeKeep
import Derived.Test.YtcclfibojmfjgacCodeAwake
import Derived.Test.YtcclfibojmfjgacThings
namespace Go.Proofs.Ytcclfibojmfjgac
open Go.ChangeShapes Go.WideShapes Go.ChangeAt Go.RowKit
set_option linter.unusedVariables false

/-- A thing's bytes. -/
def Th.bytes (t : Th) : List UInt8 :=
  if t.kind = 1 then numB t.u else if t.kind = 2 ∨ t.kind = 4 then numB (zig t.n) else if t.kind = 3 then numB t.s.size ++ t.s.data.toList else []

theorem Kept.alloc (w : World) (o : Obj) (p : Nat) (v : Value) : Kept w (w.alloc o) p v v :=
  ⟨rfl, rfl, rfl, by simp, fun k hk _ _ => Below.heap_alloc w o k hk, fun k hk => .inl hk⟩

theorem Th.bytes_len (t : Th) (h : t.ok) (hs : t.s.size ≤ 200) : t.bytes.length ≤ 210 := by
  unfold Th.bytes
  obtain ⟨_, hn, hu, _⟩ := h
  have h1 := numB_len10 t.u hu
  have h2 := numB_len10 (zig t.n) (zig_lt t.n hn.1 hn.2)
  have h3 := numB_len10 t.s.size (by omega)
  split
  · omega
  · split
    · omega
    · split
      · simp; omega
      · simp

end Go.Proofs.Ytcclfibojmfjgac
