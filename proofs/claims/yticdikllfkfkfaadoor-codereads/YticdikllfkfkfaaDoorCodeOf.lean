/- api.Of of a reader's error is its code: errors.As is walked, round by round. -/
import Derived.Test.YticdikllfkfkfaaDoorCodeIs
namespace Go.Proofs.YticdikllfkfkfaaDoor
open Go.ChangeShapes Go.WideShapes Go.ChangeAt Go.RowKit Go.Extern.Stop Go.Stop Go.Extern
set_option linter.unusedVariables false

theorem valueOfP (t : Addr) (w : World) : Sem.run Tryd.prog (callFunc 35 #[.iface 67 (.pointer (some t))]) w
    = .ok (.value (.agg #[.pointer (some ⟨1, 67, none⟩), .pointer (some ⟨w.heap.size, 0, none⟩), .int .u64 150])) (w.alloc (.cells #[.pointer (some t)] 67)) := by
  rw [@run_callFunc_extern Tryd.prog 35 _ (fun args => ReflectliteValue.unpack (args.getD 0 (.tuple #[]))) Tryd.func35 (by kernel_rfl) (by kernel_rfl) (by kernel_rfl) (by kernel_rfl)]
  kernel_rfl
theorem valueOfC (c : Int) (w : World) : Sem.run Tryd.prog (callFunc 35 #[.iface 45 (.int .i64 c)]) w
    = .ok (.value (.agg #[.pointer (some ⟨1, 45, none⟩), .pointer (some ⟨w.heap.size, 0, none⟩), .int .u64 130])) (w.alloc (.cells #[.int .i64 c] 45)) := by
  rw [@run_callFunc_extern Tryd.prog 35 _ (fun args => ReflectliteValue.unpack (args.getD 0 (.tuple #[]))) Tryd.func35 (by kernel_rfl) (by kernel_rfl) (by kernel_rfl) (by kernel_rfl)]
  kernel_rfl
theorem typeOfV (a : Addr) (w : World) : Sem.run Tryd.prog (callFunc 36 #[.agg #[.pointer (some ⟨1, 67, none⟩), .pointer (some a), .int .u64 150]]) w
    = .ok (.value (.iface 87 (.agg #[.pointer (some ⟨1, 67, none⟩)]))) w := by
  rw [@run_callFunc_extern Tryd.prog 36 _ (ReflectliteValue.methodAny (ReflectliteValue.valueError "reflectlite.Value.Type" 0) (fun t _ _ _ => ReflectliteType.toType t)) Tryd.func36 (by kernel_rfl) (by kernel_rfl) (by kernel_rfl) (by kernel_rfl)]
  kernel_rfl
theorem m_kind (h : Value) (w : World) : (Go.method 229 87 (.agg #[h]) "Kind").run Tryd.prog w = .ok (55, h) w := by kernel_rfl
theorem kindP (w : World) : Sem.run Tryd.prog (callFunc 55 #[.pointer (some ⟨1, 67, none⟩)]) w = .ok (.value (.int .u8 22)) w := by
  rw [@run_callFunc_extern Tryd.prog 55 _ (ReflectliteType.abiMethod fun t => do pure (.int .u8 (← Rtype.kind t))) Tryd.func55 (by kernel_rfl) (by kernel_rfl) (by kernel_rfl) (by kernel_rfl)]
  kernel_rfl
theorem kindC (w : World) : Sem.run Tryd.prog (callFunc 55 #[.pointer (some ⟨1, 45, none⟩)]) w = .ok (.value (.int .u8 2)) w := by
  rw [@run_callFunc_extern Tryd.prog 55 _ (ReflectliteType.abiMethod fun t => do pure (.int .u8 (← Rtype.kind t))) Tryd.func55 (by kernel_rfl) (by kernel_rfl) (by kernel_rfl) (by kernel_rfl)]
  kernel_rfl
theorem m_elem (h : Value) (w : World) : (Go.method 229 87 (.agg #[h]) "Elem").run Tryd.prog w = .ok (67, .agg #[h]) w := by kernel_rfl
theorem m_impl (h : Value) (w : World) : (Go.method 229 87 (.agg #[h]) "Implements").run Tryd.prog w = .ok (68, .agg #[h]) w := by kernel_rfl
theorem m_assign (h : Value) (w : World) : (Go.method 229 87 (.agg #[h]) "AssignableTo").run Tryd.prog w = .ok (65, .agg #[h]) w := by kernel_rfl
theorem elemT (w : World) : Sem.run Tryd.prog (callFunc 67 #[.agg #[.pointer (some ⟨1, 67, none⟩)]]) w = .ok (.value (.iface 87 (.agg #[.pointer (some ⟨1, 45, none⟩)]))) w := by
  rw [@run_callFunc_extern Tryd.prog 67 _ (ReflectliteType.method ReflectliteType.elem) Tryd.func67 (by kernel_rfl) (by kernel_rfl) (by kernel_rfl) (by kernel_rfl)]
  kernel_rfl
theorem implT (w : World) : Sem.run Tryd.prog (callFunc 68 #[.agg #[.pointer (some ⟨1, 45, none⟩)], .iface 87 (.agg #[.pointer (some ⟨1, 48, none⟩)])]) w = .ok (.value (.bool true)) w := by
  rw [@run_callFunc_extern Tryd.prog 68 _ (ReflectliteType.relation "Implements" ReflectliteType.implements_) Tryd.func68 (by kernel_rfl) (by kernel_rfl) (by kernel_rfl) (by kernel_rfl)]
  kernel_rfl
theorem typeOfF (v : Value) (w : World) : Sem.run Tryd.prog (callFunc 33 #[.iface 68 v]) w = .ok (.value (.iface 87 (.agg #[.pointer (some ⟨1, 68, none⟩)]))) w := by
  rw [@run_callFunc_extern Tryd.prog 33 _ Extern.ReflectliteType.typeOf Tryd.func33 (by kernel_rfl) (by kernel_rfl) (by kernel_rfl) (by kernel_rfl)]
  kernel_rfl
theorem assignF (w : World) : Sem.run Tryd.prog (callFunc 65 #[.agg #[.pointer (some ⟨1, 68, none⟩)], .iface 87 (.agg #[.pointer (some ⟨1, 45, none⟩)])]) w = .ok (.value (.bool false)) w := by
  rw [@run_callFunc_extern Tryd.prog 65 _ (ReflectliteType.relation "AssignableTo" ReflectliteType.assignableTo) Tryd.func65 (by kernel_rfl) (by kernel_rfl) (by kernel_rfl) (by kernel_rfl)]
  kernel_rfl
theorem assignC (w : World) : Sem.run Tryd.prog (callFunc 65 #[.agg #[.pointer (some ⟨1, 45, none⟩)], .iface 87 (.agg #[.pointer (some ⟨1, 45, none⟩)])]) w = .ok (.value (.bool true)) w := by
  rw [@run_callFunc_extern Tryd.prog 65 _ (ReflectliteType.relation "AssignableTo" ReflectliteType.assignableTo) Tryd.func65 (by kernel_rfl) (by kernel_rfl) (by kernel_rfl) (by kernel_rfl)]
  kernel_rfl
theorem no_as_f (v : Value) (xT : TypeId) (w : World) : (Instr.typeAssert (.iface 68 v) xT 98 true).run Tryd.prog w = .ok (.tuple #[.nilIface, .bool false]) w := run_typeAssert_lacksB Tryd.underlying98 (by kernel_rfl) (by kernel_rfl) v xT w

end Go.Proofs.YticdikllfkfkfaaDoor
