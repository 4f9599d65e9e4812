/- errors.Is of a reader's error and a code: the codes are one. -/
import Derived.Test.YtakfinccoffplaaDoorCodeR2
import Derived.LaidEql
import Derived.Stop.Asserts
import Derived.RowKitTokens
namespace Go.Proofs.YtakfinccoffplaaDoor
open Go.ChangeShapes Go.WideShapes Go.ChangeAt Go.RowKit Go.Extern.Stop Go.Stop Go.Extern
set_option linter.unusedVariables false

theorem type_call (v : Value) (w : World) : Sem.run Tryd.prog (callFunc 53 #[.iface 40 v]) w = .ok (.value (.iface 112 (.agg #[.pointer (some ⟨1, 40, none⟩)]))) w := by
  rw [@run_callFunc_extern Tryd.prog 53 _ Extern.ReflectliteType.typeOf Tryd.func53 (by kernel_rfl) (by kernel_rfl) (by kernel_rfl) (by kernel_rfl)]
  kernel_rfl
theorem comp_call (w : World) : Sem.run Tryd.prog (callFunc 80 #[.agg #[.pointer (some ⟨1, 40, none⟩)]]) w = .ok (.value (.bool true)) w := by
  rw [@run_callFunc_extern Tryd.prog 80 _ (Extern.ReflectliteType.method fun t => do Go.Extern.Rtype.noPackHeld "Comparable" t; pure (.bool (← typeInfo t).comparable)) Tryd.func80 (by kernel_rfl) (by kernel_rfl) (by kernel_rfl) (by kernel_rfl)]
  kernel_rfl
theorem comp_method (v : Value) (w : World) : (Go.method 255 112 v "Comparable").run Tryd.prog w = .ok (80, v) w := by kernel_rfl
theorem code_comp : (Tryd.prog.info? 40).map (·.comparable) = some true := by kernel_rfl
theorem has_unwrap (v : Value) (xT : TypeId) (w : World) : (Instr.typeAssert (.iface 124 v) xT 120 true).run Tryd.prog w = .ok (.tuple #[.iface 124 v, .bool true]) w := run_typeAssert_hasB Tryd.underlying120 (by kernel_rfl) v xT w
theorem unwrap_method (v : Value) (w : World) : (Go.method 255 124 v "Unwrap").run Tryd.prog w = .ok (90, v) w := by kernel_rfl

/-- Two codes as errors are equal as their numbers are. -/
theorem eql_codes (a b : Int) (w : World) : (binOp .eql 30 (.iface 40 (.int .i64 a)) (.iface 40 (.int .i64 b))).run Tryd.prog w = .ok (.bool (a == b)) w := by
  obtain ⟨i, hi, hc⟩ := Option.map_eq_some_iff.1 code_comp
  have h : ∀ d : Nat, (Op.equalIn (d + 2) 30 (.iface 40 (.int .i64 a)) (.iface 40 (.int .i64 b))).run Tryd.prog w = .ok (a == b) w := fun d => by
    simp [Op.equalIn, run_underlying Tryd.underlying30, run_underlying Tryd.underlying40, typeInfo, hi, hc]
  simp only [binOp]
  simp [Op.equal, Op.maxDepth, h 9998]

end Go.Proofs.YtakfinccoffplaaDoor
