/- errors.As of a fault finds it: errors.As is walked. -/
import Derived.Test.YtpepbhmdfjpblaaGreatDoorRows
import Derived.Test.YtpepbhmdfjpblaaGreatDoorAid
import Derived.LaidEql
import Derived.Stop.Asserts
import Derived.RowKitTokens
import Derived.WalkKit
import Derived.ProofKit
import Derived.OpenShut
import Derived.WalkLawsBesides
import Derived.OneCell
import Derived.Outline
namespace Go.Proofs.YtpepbhmdfjpblaaGreatDoor
open Go.ChangeShapes Go.WideShapes Go.ChangeAt Go.RowKit Go.Extern.Stop Go.Stop Go.Extern
set_option linter.unusedVariables false

theorem valueOfCQ (c : Nat) (w : World) : Sem.run Tryz.prog (callFunc 62 #[.iface 170 (.pointer (some ⟨c, 0, none⟩))]) w
    = .ok (.value (.agg #[.pointer (some ⟨6, 170, none⟩), .pointer (some ⟨w.heap.size, 0, none⟩), .int .u64 150])) (w.alloc (.cells #[.pointer (some ⟨c, 0, none⟩)] 170)) := by
  rw [@run_callFunc_extern Tryz.prog 62 _ (fun args => ReflectliteValue.unpack (args.getD 0 (.tuple #[]))) Tryz.func62 (by kernel_rfl) (by kernel_rfl) (by kernel_rfl) (by kernel_rfl)]
  kernel_rfl
theorem m_kindQ (h : Value) (w : World) : (Go.method 393 130 (.agg #[h]) "Kind").run Tryz.prog w = .ok (161, h) w := by kernel_rfl
theorem kindCQ (w : World) : Sem.run Tryz.prog (callFunc 161 #[.pointer (some ⟨6, 170, none⟩)]) w = .ok (.value (.int .u8 22)) w := by
  rw [@run_callFunc_extern Tryz.prog 161 _ (ReflectliteType.abiMethod fun t => do pure (.int .u8 (← Rtype.kind t))) Tryz.func161 (by kernel_rfl) (by kernel_rfl) (by kernel_rfl) (by kernel_rfl)]
  kernel_rfl
theorem m_elemQ (h : Value) (w : World) : (Go.method 393 130 (.agg #[h]) "Elem").run Tryz.prog w = .ok (168, .agg #[h]) w := by kernel_rfl
theorem m_implQ (h : Value) (w : World) : (Go.method 393 130 (.agg #[h]) "Implements").run Tryz.prog w = .ok (169, .agg #[h]) w := by kernel_rfl
theorem m_assignQ (h : Value) (w : World) : (Go.method 393 130 (.agg #[h]) "AssignableTo").run Tryz.prog w = .ok (166, .agg #[h]) w := by kernel_rfl
theorem implTQ (w : World) : Sem.run Tryz.prog (callFunc 169 #[.agg #[.pointer (some ⟨6, 170, none⟩)], .iface 130 (.agg #[.pointer (some ⟨6, 30, none⟩)])]) w = .ok (.value (.bool true)) w := by
  rw [@run_callFunc_extern Tryz.prog 169 _ (ReflectliteType.relation "Implements" ReflectliteType.implements_) Tryz.func169 (by kernel_rfl) (by kernel_rfl) (by kernel_rfl) (by kernel_rfl)]
  kernel_rfl
theorem assignCQ (w : World) : Sem.run Tryz.prog (callFunc 166 #[.agg #[.pointer (some ⟨6, 170, none⟩)], .iface 130 (.agg #[.pointer (some ⟨6, 170, none⟩)])]) w = .ok (.value (.bool true)) w := by
  rw [@run_callFunc_extern Tryz.prog 166 _ (ReflectliteType.relation "AssignableTo" ReflectliteType.assignableTo) Tryz.func166 (by kernel_rfl) (by kernel_rfl) (by kernel_rfl) (by kernel_rfl)]
  kernel_rfl

theorem rlmQ (z : Sem Value) (f : TypeId → Addr → Nat → Nat → Sem Value) (v : Value) :
    ReflectliteValue.method z f #[v] = (do match ← ReflectliteValue.parts v with | none => z | some (t, a, fl) => f t a fl (fl % 32)) := rfl
theorem mkCQ (p : Addr) (w : World) : (ReflectliteValue.mk 170 p ReflectliteValue.flagAddr).run Tryz.prog w = .ok (.agg #[.pointer (some ⟨6, 170, none⟩), .pointer (some p), .int .u64 406]) w := by kernel_rfl
theorem rlsQ (v x : Value) : ReflectliteValue.set #[v, x] = (do
    let (some (dst, a, fl), some (src, b, _)) := (← ReflectliteValue.parts v, ← ReflectliteValue.parts x)
      | unsupported (.noEntry "extern/(internal/reflectlite.Value).Set.zeroValue")
    if fl / ReflectliteValue.flagAddr % 2 == 0 then unsupported (.noEntry "extern/(internal/reflectlite.Value).Set.unaddressable")
    let val ← loadVar src b
    if ← Rtype.directlyAssignable dst src then storeVar dst a val
    else if ← Rtype.implements dst src then
      if (← Rtype.kind src) == 20 then
        match val with
        | .nilIface => unsupported (.noEntry "extern/reflectlite: a nil value of one interface type handed on as a value of another")
        | _ => storeVar dst a val
      else storeVar dst a (.iface src val)
    else panicString ("reflectlite.Set: value of type " ++ (← Rtype.spelt src) ++ " is not assignable to type " ++ (← Rtype.spelt dst))
    pure (.tuple #[])) := rfl
theorem partsCaQ (a : Addr) (w : World) : (ReflectliteValue.parts (.agg #[.pointer (some ⟨6, 170, none⟩), .pointer (some a), .int .u64 406])).run Tryz.prog w = .ok (some (170, a, 406)) w := by kernel_rfl
theorem partsCQ (a : Addr) (w : World) : (ReflectliteValue.parts (.agg #[.pointer (some ⟨6, 170, none⟩), .pointer (some a), .int .u64 150])).run Tryz.prog w = .ok (some (170, a, 150)) w := by kernel_rfl
theorem directCQ (w : World) : (Rtype.directlyAssignable 170 170).run Tryz.prog w = .ok true w := by kernel_rfl
theorem setCQ (ta b : Addr) (c : Nat) (old : Value) (W : World) (hb : W.cell? b = some (.pointer (some ⟨c, 0, none⟩))) (ht : W.cell? ta = some old) (hf : W.frozen? ta = false) :
    Sem.run Tryz.prog (callFunc 92 #[.agg #[.pointer (some ⟨6, 170, none⟩), .pointer (some ta), .int .u64 406], .agg #[.pointer (some ⟨6, 170, none⟩), .pointer (some b), .int .u64 150]]) W
      = .ok (.value (.tuple #[])) (W.setCell ta (.pointer (some ⟨c, 0, none⟩))) := by
  rw [@run_callFunc_extern Tryz.prog 92 _ ReflectliteValue.set Tryz.func92 (by kernel_rfl) (by kernel_rfl) (by kernel_rfl) (by kernel_rfl)]
  rw [rlsQ]
  simp only [Sem.run_bind, partsCaQ, partsCQ, Result.andThen]
  simp [ReflectliteValue.flagAddr, loadVar, isAgg, underlying, Tryz.underlying170, hb, Result.andThen, directCQ, storeVar, Value.cells, storeCells, Addr.add]
  rw [run_store Tryz.prog W ta _ _ (by rfl)]
  simp [ht, hf]

/-- errors.errorType holds error's type. -/
def ErrType (w : World) : Prop := w.cell? ⟨0, 0, none⟩ = some (.iface 130 (.agg #[.pointer (some ⟨6, 30, none⟩)]))

theorem ErrType.lt {w : World} (h : ErrType w) : 0 < w.heap.size := by
  rcases Nat.eq_zero_or_pos w.heap.size with h0 | h1
  · unfold ErrType at h; simp [World.cell?, h0] at h
  · exact h1
theorem ErrType.below {w w' : World} {B : Nat} (h : ErrType w) (hB : 0 < B) (hb : Below B w w') : ErrType w' := by
  unfold ErrType at *
  rw [← h]; exact World.cell?_of_block (hb.block 0 hB)


theorem typeOfC4Q (v : Value) (w : World) : Sem.run Tryz.prog (callFunc 28 #[.iface 170 v]) w = .ok (.value (.iface 130 (.agg #[.pointer (some ⟨6, 170, none⟩)]))) w := by
  rw [@run_callFunc_extern Tryz.prog 28 _ Extern.ReflectliteType.typeOf Tryz.func28 (by kernel_rfl) (by kernel_rfl) (by kernel_rfl) (by kernel_rfl)]
  kernel_rfl

end Go.Proofs.YtpepbhmdfjpblaaGreatDoor
