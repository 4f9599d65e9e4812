/- errors.Is of a reader's error and a code: the codes are one. -/
import Derived.Test.YticdikllfkfkfaaCodeR2
import Derived.LaidEql
import Derived.Stop.Asserts
import Derived.RowKitTokens
namespace Go.Proofs.Yticdikllfkfkfaa
open Go.ChangeShapes Go.WideShapes Go.ChangeAt Go.RowKit Go.Extern.Stop Go.Stop Go.Extern
set_option linter.unusedVariables false

theorem type_call (v : Value) (w : World) : Sem.run Try.prog (callFunc 22 #[.iface 48 v]) w = .ok (.value (.iface 61 (.agg #[.pointer (some ⟨0, 48, none⟩)]))) w := by
  rw [@run_callFunc_extern Try.prog 22 _ Extern.ReflectliteType.typeOf Try.func22 (by kernel_rfl) (by kernel_rfl) (by kernel_rfl) (by kernel_rfl)]
  kernel_rfl
theorem comp_call (w : World) : Sem.run Try.prog (callFunc 45 #[.agg #[.pointer (some ⟨0, 48, none⟩)]]) w = .ok (.value (.bool true)) w := by
  rw [@run_callFunc_extern Try.prog 45 _ (Extern.ReflectliteType.method fun t => do Go.Extern.Rtype.noPackHeld "Comparable" t; pure (.bool (← typeInfo t).comparable)) Try.func45 (by kernel_rfl) (by kernel_rfl) (by kernel_rfl) (by kernel_rfl)]
  kernel_rfl
theorem comp_method (v : Value) (w : World) : (Go.method 202 61 v "Comparable").run Try.prog w = .ok (45, v) w := by kernel_rfl
theorem code_comp : (Try.prog.info? 48).map (·.comparable) = some true := by kernel_rfl
theorem no_is_f (v : Value) (xT : TypeId) (w : World) : (Instr.typeAssert (.iface 57 v) xT 63 true).run Try.prog w = .ok (.tuple #[.nilIface, .bool false]) w := run_typeAssert_lacksB Try.underlying63 (by kernel_rfl) (by kernel_rfl) v xT w
theorem has_unwrap (v : Value) (xT : TypeId) (w : World) : (Instr.typeAssert (.iface 57 v) xT 66 true).run Try.prog w = .ok (.tuple #[.iface 57 v, .bool true]) w := run_typeAssert_hasB Try.underlying66 (by kernel_rfl) v xT w
theorem unwrap_method (v : Value) (w : World) : (Go.method 202 57 v "Unwrap").run Try.prog w = .ok (41, v) w := by kernel_rfl

/-- Two codes as errors are equal as their numbers are. -/
theorem eql_codes (a b : Int) (w : World) : (binOp .eql 41 (.iface 48 (.int .i64 a)) (.iface 48 (.int .i64 b))).run Try.prog w = .ok (.bool (a == b)) w := by
  obtain ⟨i, hi, hc⟩ := Option.map_eq_some_iff.1 code_comp
  have h : ∀ d : Nat, (Op.equalIn (d + 2) 41 (.iface 48 (.int .i64 a)) (.iface 48 (.int .i64 b))).run Try.prog w = .ok (a == b) w := fun d => by
    simp [Op.equalIn, run_underlying Try.underlying41, run_underlying Try.underlying48, typeInfo, hi, hc]
  simp only [binOp]
  simp [Op.equal, Op.maxDepth, h 9998]

theorem is_fault (g c : Nat) (st : ByteArray) (at' : Int) (w : World) (h : w.heap[g]? = some (.cells #[.string st, .int .i64 at', .iface 48 (.int .i64 c)] 59 (0, 0))) :
    Calls Try.prog 19 #[.iface 57 (.pointer (some ⟨g, 0, none⟩)), .iface 48 (.int .i64 c)] w fun e w' => e = .returned (.bool true) ∧ w' = w := by
  have hc2 : w.cell? ⟨g, 2, none⟩ = some (.iface 48 (.int .i64 c)) := by simp [World.cell?, h]
  clear h
  have h28 := type_call
  have h51 := comp_call
  have mC := comp_method
  have nF := no_is_f
  have uF := has_unwrap
  have mU := unwrap_method
  have hty := run_eql_iface_types (P := Try.prog) 57 48 (.pointer (some ⟨g, 0, none⟩)) (.int .i64 c) Try.underlying41 (by decide) w
  have heq := eql_codes c c w
  have hcc : ((c : Int) == (c : Int)) = true := by simp
  rw [hcc] at heq
  clear hcc
  go_enter Try.func19, Try.ntmps19
  go_wp2
  refine wp_loop_rounds 2 ?_
  rw [rounds_succ]
  go_wp2
  rw [rounds_succ]
  go_wp2
  go_ret
  exact ⟨rfl, rfl⟩
end Go.Proofs.Yticdikllfkfkfaa
