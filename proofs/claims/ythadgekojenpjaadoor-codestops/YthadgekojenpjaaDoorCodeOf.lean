/- api.Of of a reader's error is its code: errors.As is walked, round by round. -/
import Derived.Test.YthadgekojenpjaaDoorCodeIs
namespace Go.Proofs.YthadgekojenpjaaDoor
open Go.ChangeShapes Go.WideShapes Go.ChangeAt Go.RowKit Go.Extern.Stop Go.Stop Go.Extern
set_option linter.unusedVariables false

theorem valueOfP (t : Addr) (w : World) : Sem.run Tryd.prog (callFunc 26 #[.iface 55 (.pointer (some t))]) w
    = .ok (.value (.agg #[.pointer (some ⟨1, 55, none⟩), .pointer (some ⟨w.heap.size, 0, none⟩), .int .u64 150])) (w.alloc (.cells #[.pointer (some t)] 55)) := by
  rw [@run_callFunc_extern Tryd.prog 26 _ (fun args => ReflectliteValue.unpack (args.getD 0 (.tuple #[]))) Tryd.func26 (by kernel_rfl) (by kernel_rfl) (by kernel_rfl) (by kernel_rfl)]
  kernel_rfl
theorem valueOfC (c : Int) (w : World) : Sem.run Tryd.prog (callFunc 26 #[.iface 38 (.int .i64 c)]) w
    = .ok (.value (.agg #[.pointer (some ⟨1, 38, none⟩), .pointer (some ⟨w.heap.size, 0, none⟩), .int .u64 130])) (w.alloc (.cells #[.int .i64 c] 38)) := by
  rw [@run_callFunc_extern Tryd.prog 26 _ (fun args => ReflectliteValue.unpack (args.getD 0 (.tuple #[]))) Tryd.func26 (by kernel_rfl) (by kernel_rfl) (by kernel_rfl) (by kernel_rfl)]
  kernel_rfl
theorem typeOfV (a : Addr) (w : World) : Sem.run Tryd.prog (callFunc 27 #[.agg #[.pointer (some ⟨1, 55, none⟩), .pointer (some a), .int .u64 150]]) w
    = .ok (.value (.iface 75 (.agg #[.pointer (some ⟨1, 55, none⟩)]))) w := by
  rw [@run_callFunc_extern Tryd.prog 27 _ (ReflectliteValue.methodAny (ReflectliteValue.valueError "reflectlite.Value.Type" 0) (fun t _ _ _ => ReflectliteType.toType t)) Tryd.func27 (by kernel_rfl) (by kernel_rfl) (by kernel_rfl) (by kernel_rfl)]
  kernel_rfl
theorem m_kind (h : Value) (w : World) : (Go.method 217 75 (.agg #[h]) "Kind").run Tryd.prog w = .ok (46, h) w := by kernel_rfl
theorem kindP (w : World) : Sem.run Tryd.prog (callFunc 46 #[.pointer (some ⟨1, 55, none⟩)]) w = .ok (.value (.int .u8 22)) w := by
  rw [@run_callFunc_extern Tryd.prog 46 _ (ReflectliteType.abiMethod fun t => do pure (.int .u8 (← Rtype.kind t))) Tryd.func46 (by kernel_rfl) (by kernel_rfl) (by kernel_rfl) (by kernel_rfl)]
  kernel_rfl
theorem kindC (w : World) : Sem.run Tryd.prog (callFunc 46 #[.pointer (some ⟨1, 38, none⟩)]) w = .ok (.value (.int .u8 2)) w := by
  rw [@run_callFunc_extern Tryd.prog 46 _ (ReflectliteType.abiMethod fun t => do pure (.int .u8 (← Rtype.kind t))) Tryd.func46 (by kernel_rfl) (by kernel_rfl) (by kernel_rfl) (by kernel_rfl)]
  kernel_rfl
theorem m_elem (h : Value) (w : World) : (Go.method 217 75 (.agg #[h]) "Elem").run Tryd.prog w = .ok (58, .agg #[h]) w := by kernel_rfl
theorem m_impl (h : Value) (w : World) : (Go.method 217 75 (.agg #[h]) "Implements").run Tryd.prog w = .ok (59, .agg #[h]) w := by kernel_rfl
theorem m_assign (h : Value) (w : World) : (Go.method 217 75 (.agg #[h]) "AssignableTo").run Tryd.prog w = .ok (56, .agg #[h]) w := by kernel_rfl
theorem elemT (w : World) : Sem.run Tryd.prog (callFunc 58 #[.agg #[.pointer (some ⟨1, 55, none⟩)]]) w = .ok (.value (.iface 75 (.agg #[.pointer (some ⟨1, 38, none⟩)]))) w := by
  rw [@run_callFunc_extern Tryd.prog 58 _ (ReflectliteType.method ReflectliteType.elem) Tryd.func58 (by kernel_rfl) (by kernel_rfl) (by kernel_rfl) (by kernel_rfl)]
  kernel_rfl
theorem implT (w : World) : Sem.run Tryd.prog (callFunc 59 #[.agg #[.pointer (some ⟨1, 38, none⟩)], .iface 75 (.agg #[.pointer (some ⟨1, 41, none⟩)])]) w = .ok (.value (.bool true)) w := by
  rw [@run_callFunc_extern Tryd.prog 59 _ (ReflectliteType.relation "Implements" ReflectliteType.implements_) Tryd.func59 (by kernel_rfl) (by kernel_rfl) (by kernel_rfl) (by kernel_rfl)]
  kernel_rfl
theorem typeOfF (v : Value) (w : World) : Sem.run Tryd.prog (callFunc 24 #[.iface 56 v]) w = .ok (.value (.iface 75 (.agg #[.pointer (some ⟨1, 56, none⟩)]))) w := by
  rw [@run_callFunc_extern Tryd.prog 24 _ Extern.ReflectliteType.typeOf Tryd.func24 (by kernel_rfl) (by kernel_rfl) (by kernel_rfl) (by kernel_rfl)]
  kernel_rfl
theorem assignF (w : World) : Sem.run Tryd.prog (callFunc 56 #[.agg #[.pointer (some ⟨1, 56, none⟩)], .iface 75 (.agg #[.pointer (some ⟨1, 38, none⟩)])]) w = .ok (.value (.bool false)) w := by
  rw [@run_callFunc_extern Tryd.prog 56 _ (ReflectliteType.relation "AssignableTo" ReflectliteType.assignableTo) Tryd.func56 (by kernel_rfl) (by kernel_rfl) (by kernel_rfl) (by kernel_rfl)]
  kernel_rfl
theorem assignC (w : World) : Sem.run Tryd.prog (callFunc 56 #[.agg #[.pointer (some ⟨1, 38, none⟩)], .iface 75 (.agg #[.pointer (some ⟨1, 38, none⟩)])]) w = .ok (.value (.bool true)) w := by
  rw [@run_callFunc_extern Tryd.prog 56 _ (ReflectliteType.relation "AssignableTo" ReflectliteType.assignableTo) Tryd.func56 (by kernel_rfl) (by kernel_rfl) (by kernel_rfl) (by kernel_rfl)]
  kernel_rfl
theorem no_as_f (v : Value) (xT : TypeId) (w : World) : (Instr.typeAssert (.iface 56 v) xT 86 true).run Tryd.prog w = .ok (.tuple #[.nilIface, .bool false]) w := run_typeAssert_lacksB Tryd.underlying86 (by kernel_rfl) (by kernel_rfl) v xT w

end Go.Proofs.YthadgekojenpjaaDoor
