/- errors.As of a fault finds it: errors.As is walked. -/
import Derived.Test.YtcckoncgfmbhiabGreatDoorRows
import Derived.Test.YtcckoncgfmbhiabGreatDoorAid
import Derived.LaidEql
import Derived.Stop.Asserts
import Derived.RowKitTokens
import Derived.WalkKit
import Derived.ProofKit
import Derived.OpenShut
import Derived.WalkLawsBesides
import Derived.OneCell
import Derived.Outline
namespace Go.Proofs.YtcckoncgfmbhiabGreatDoor
open Go.ChangeShapes Go.WideShapes Go.ChangeAt Go.RowKit Go.Extern.Stop Go.Stop Go.Extern
set_option linter.unusedVariables false

theorem m_kindQ (h : Value) (w : World) : (Go.method 285 110 (.agg #[h]) "Kind").run Tryz.prog w = .ok (102, h) w := by kernel_rfl
theorem kindCQ (w : World) : Sem.run Tryz.prog (callFunc 102 #[.pointer (some ⟨6, 59, none⟩)]) w = .ok (.value (.int .u8 22)) w := by
  rw [@run_callFunc_extern Tryz.prog 102 _ (ReflectliteType.abiMethod fun t => do pure (.int .u8 (← Rtype.kind t))) Tryz.func102 (by kernel_rfl) (by kernel_rfl) (by kernel_rfl) (by kernel_rfl)]
  kernel_rfl
theorem m_elemQ (h : Value) (w : World) : (Go.method 285 110 (.agg #[h]) "Elem").run Tryz.prog w = .ok (106, .agg #[h]) w := by kernel_rfl
theorem m_implQ (h : Value) (w : World) : (Go.method 285 110 (.agg #[h]) "Implements").run Tryz.prog w = .ok (107, .agg #[h]) w := by kernel_rfl
theorem m_assignQ (h : Value) (w : World) : (Go.method 285 110 (.agg #[h]) "AssignableTo").run Tryz.prog w = .ok (104, .agg #[h]) w := by kernel_rfl
theorem implTQ (w : World) : Sem.run Tryz.prog (callFunc 107 #[.agg #[.pointer (some ⟨6, 59, none⟩)], .iface 110 (.agg #[.pointer (some ⟨6, 39, none⟩)])]) w = .ok (.value (.bool true)) w := by
  rw [@run_callFunc_extern Tryz.prog 107 _ (ReflectliteType.relation "Implements" ReflectliteType.implements_) Tryz.func107 (by kernel_rfl) (by kernel_rfl) (by kernel_rfl) (by kernel_rfl)]
  kernel_rfl
theorem assignCQ (w : World) : Sem.run Tryz.prog (callFunc 104 #[.agg #[.pointer (some ⟨6, 59, none⟩)], .iface 110 (.agg #[.pointer (some ⟨6, 59, none⟩)])]) w = .ok (.value (.bool true)) w := by
  rw [@run_callFunc_extern Tryz.prog 104 _ (ReflectliteType.relation "AssignableTo" ReflectliteType.assignableTo) Tryz.func104 (by kernel_rfl) (by kernel_rfl) (by kernel_rfl) (by kernel_rfl)]
  kernel_rfl

theorem rlmQ (z : Sem Value) (f : TypeId → Addr → Nat → Nat → Sem Value) (v : Value) :
    ReflectliteValue.method z f #[v] = (do match ← ReflectliteValue.parts v with | none => z | some (t, a, fl) => f t a fl (fl % 32)) := rfl
theorem mkCQ (p : Addr) (w : World) : (ReflectliteValue.mk 59 p ReflectliteValue.flagAddr).run Tryz.prog w = .ok (.agg #[.pointer (some ⟨6, 59, none⟩), .pointer (some p), .int .u64 406]) w := by kernel_rfl
theorem rlsQ (v x : Value) : ReflectliteValue.set #[v, x] = (do
    let (some (dst, a, fl), some (src, b, _)) := (← ReflectliteValue.parts v, ← ReflectliteValue.parts x)
      | unsupported (.noEntry "extern/(internal/reflectlite.Value).Set.zeroValue")
    if fl / ReflectliteValue.flagAddr % 2 == 0 then unsupported (.noEntry "extern/(internal/reflectlite.Value).Set.unaddressable")
    let val ← loadVar src b
    if ← Rtype.directlyAssignable dst src then storeVar dst a val
    else if ← Rtype.implements dst src then
      if (← Rtype.kind src) == 20 then
        match val with
        | .nilIface => unsupported (.noEntry "extern/reflectlite: a nil value of one interface type handed on as a value of another")
        | _ => storeVar dst a val
      else storeVar dst a (.iface src val)
    else panicString ("reflectlite.Set: value of type " ++ (← Rtype.spelt src) ++ " is not assignable to type " ++ (← Rtype.spelt dst))
    pure (.tuple #[])) := rfl
theorem partsCaQ (a : Addr) (w : World) : (ReflectliteValue.parts (.agg #[.pointer (some ⟨6, 59, none⟩), .pointer (some a), .int .u64 406])).run Tryz.prog w = .ok (some (59, a, 406)) w := by kernel_rfl
theorem partsCQ (a : Addr) (w : World) : (ReflectliteValue.parts (.agg #[.pointer (some ⟨6, 59, none⟩), .pointer (some a), .int .u64 150])).run Tryz.prog w = .ok (some (59, a, 150)) w := by kernel_rfl
theorem directCQ (w : World) : (Rtype.directlyAssignable 59 59).run Tryz.prog w = .ok true w := by kernel_rfl
/-- errors.errorType holds error's type. -/
def ErrType (w : World) : Prop := w.cell? ⟨0, 0, none⟩ = some (.iface 110 (.agg #[.pointer (some ⟨6, 39, none⟩)]))

theorem ErrType.lt {w : World} (h : ErrType w) : 0 < w.heap.size := by
  rcases Nat.eq_zero_or_pos w.heap.size with h0 | h1
  · unfold ErrType at h; simp [World.cell?, h0] at h
  · exact h1
theorem ErrType.below {w w' : World} {B : Nat} (h : ErrType w) (hB : 0 < B) (hb : Below B w w') : ErrType w' := by
  unfold ErrType at *
  rw [← h]; exact World.cell?_of_block (hb.block 0 hB)


theorem typeOfC4Q (v : Value) (w : World) : Sem.run Tryz.prog (callFunc 44 #[.iface 59 v]) w = .ok (.value (.iface 110 (.agg #[.pointer (some ⟨6, 59, none⟩)]))) w := by
  rw [@run_callFunc_extern Tryz.prog 44 _ Extern.ReflectliteType.typeOf Tryz.func44 (by kernel_rfl) (by kernel_rfl) (by kernel_rfl) (by kernel_rfl)]
  kernel_rfl

end Go.Proofs.YtcckoncgfmbhiabGreatDoor
