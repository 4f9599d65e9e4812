/- errors.Is of a reader's error and a code: the codes are one. -/
import Derived.Test.YticdikllfkfkfaaDoorCodeR2
import Derived.LaidEql
import Derived.Stop.Asserts
import Derived.RowKitTokens
namespace Go.Proofs.YticdikllfkfkfaaDoor
open Go.ChangeShapes Go.WideShapes Go.ChangeAt Go.RowKit Go.Extern.Stop Go.Stop Go.Extern
set_option linter.unusedVariables false

theorem type_call (v : Value) (w : World) : Sem.run Tryd.prog (callFunc 33 #[.iface 45 v]) w = .ok (.value (.iface 87 (.agg #[.pointer (some ⟨1, 45, none⟩)]))) w := by
  rw [@run_callFunc_extern Tryd.prog 33 _ Extern.ReflectliteType.typeOf Tryd.func33 (by kernel_rfl) (by kernel_rfl) (by kernel_rfl) (by kernel_rfl)]
  kernel_rfl
theorem comp_call (w : World) : Sem.run Tryd.prog (callFunc 66 #[.agg #[.pointer (some ⟨1, 45, none⟩)]]) w = .ok (.value (.bool true)) w := by
  rw [@run_callFunc_extern Tryd.prog 66 _ (Extern.ReflectliteType.method fun t => do Go.Extern.Rtype.noPackHeld "Comparable" t; pure (.bool (← typeInfo t).comparable)) Tryd.func66 (by kernel_rfl) (by kernel_rfl) (by kernel_rfl) (by kernel_rfl)]
  kernel_rfl
theorem comp_method (v : Value) (w : World) : (Go.method 229 87 v "Comparable").run Tryd.prog w = .ok (66, v) w := by kernel_rfl
theorem code_comp : (Tryd.prog.info? 45).map (·.comparable) = some true := by kernel_rfl
theorem no_is_f (v : Value) (xT : TypeId) (w : World) : (Instr.typeAssert (.iface 68 v) xT 89 true).run Tryd.prog w = .ok (.tuple #[.nilIface, .bool false]) w := run_typeAssert_lacksB Tryd.underlying89 (by kernel_rfl) (by kernel_rfl) v xT w
theorem has_unwrap (v : Value) (xT : TypeId) (w : World) : (Instr.typeAssert (.iface 68 v) xT 92 true).run Tryd.prog w = .ok (.tuple #[.iface 68 v, .bool true]) w := run_typeAssert_hasB Tryd.underlying92 (by kernel_rfl) v xT w
theorem unwrap_method (v : Value) (w : World) : (Go.method 229 68 v "Unwrap").run Tryd.prog w = .ok (60, v) w := by kernel_rfl

/-- Two codes as errors are equal as their numbers are. -/
theorem eql_codes (a b : Int) (w : World) : (binOp .eql 48 (.iface 45 (.int .i64 a)) (.iface 45 (.int .i64 b))).run Tryd.prog w = .ok (.bool (a == b)) w := by
  obtain ⟨i, hi, hc⟩ := Option.map_eq_some_iff.1 code_comp
  have h : ∀ d : Nat, (Op.equalIn (d + 2) 48 (.iface 45 (.int .i64 a)) (.iface 45 (.int .i64 b))).run Tryd.prog w = .ok (a == b) w := fun d => by
    simp [Op.equalIn, run_underlying Tryd.underlying48, run_underlying Tryd.underlying45, typeInfo, hi, hc]
  simp only [binOp]
  simp [Op.equal, Op.maxDepth, h 9998]

theorem is_fault (g c : Nat) (st : ByteArray) (at' : Int) (w : World) (h : w.heap[g]? = some (.cells #[.string st, .int .i64 at', .iface 45 (.int .i64 c)] 70 (0, 0))) :
    Calls Tryd.prog 30 #[.iface 68 (.pointer (some ⟨g, 0, none⟩)), .iface 45 (.int .i64 c)] w fun e w' => e = .returned (.bool true) ∧ w' = w := by
  have hc2 : w.cell? ⟨g, 2, none⟩ = some (.iface 45 (.int .i64 c)) := by simp [World.cell?, h]
  clear h
  have h28 := type_call
  have h51 := comp_call
  have mC := comp_method
  have nF := no_is_f
  have uF := has_unwrap
  have mU := unwrap_method
  have hty := run_eql_iface_types (P := Tryd.prog) 68 45 (.pointer (some ⟨g, 0, none⟩)) (.int .i64 c) Tryd.underlying48 (by decide) w
  have heq := eql_codes c c w
  have hcc : ((c : Int) == (c : Int)) = true := by simp
  rw [hcc] at heq
  clear hcc
  go_enter Tryd.func30, Tryd.ntmps30
  go_wp2
  refine wp_loop_rounds 2 ?_
  rw [rounds_succ]
  go_wp2
  rw [rounds_succ]
  go_wp2
  go_ret
  exact ⟨rfl, rfl⟩
end Go.Proofs.YticdikllfkfkfaaDoor
