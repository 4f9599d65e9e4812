/- errors.Is of a reader's error and a code: the codes are one. -/
import Derived.Test.YtcclfibojmfjgabCodeR2
import Derived.LaidEql
import Derived.Stop.Asserts
import Derived.RowKitTokens
namespace Go.Proofs.Ytcclfibojmfjgab
open Go.ChangeShapes Go.WideShapes Go.ChangeAt Go.RowKit Go.Extern.Stop Go.Stop Go.Extern
set_option linter.unusedVariables false

theorem type_call (v : Value) (w : World) : Sem.run Try.prog (callFunc 19 #[.iface 35 v]) w = .ok (.value (.iface 62 (.agg #[.pointer (some ⟨0, 35, none⟩)]))) w := by
  rw [@run_callFunc_extern Try.prog 19 _ Extern.ReflectliteType.typeOf Try.func19 (by kernel_rfl) (by kernel_rfl) (by kernel_rfl) (by kernel_rfl)]
  kernel_rfl
theorem comp_call (w : World) : Sem.run Try.prog (callFunc 52 #[.agg #[.pointer (some ⟨0, 35, none⟩)]]) w = .ok (.value (.bool true)) w := by
  rw [@run_callFunc_extern Try.prog 52 _ (Extern.ReflectliteType.method fun t => do Go.Extern.Rtype.noPackHeld "Comparable" t; pure (.bool (← typeInfo t).comparable)) Try.func52 (by kernel_rfl) (by kernel_rfl) (by kernel_rfl) (by kernel_rfl)]
  kernel_rfl
theorem comp_method (v : Value) (w : World) : (Go.method 213 62 v "Comparable").run Try.prog w = .ok (52, v) w := by kernel_rfl
theorem code_comp : (Try.prog.info? 35).map (·.comparable) = some true := by kernel_rfl
theorem no_is_f (v : Value) (xT : TypeId) (w : World) : (Instr.typeAssert (.iface 78 v) xT 64 true).run Try.prog w = .ok (.tuple #[.nilIface, .bool false]) w := run_typeAssert_lacksB Try.underlying64 (by kernel_rfl) (by kernel_rfl) v xT w
theorem has_unwrap (v : Value) (xT : TypeId) (w : World) : (Instr.typeAssert (.iface 78 v) xT 67 true).run Try.prog w = .ok (.tuple #[.iface 78 v, .bool true]) w := run_typeAssert_hasB Try.underlying67 (by kernel_rfl) v xT w
theorem unwrap_method (v : Value) (w : World) : (Go.method 213 78 v "Unwrap").run Try.prog w = .ok (62, v) w := by kernel_rfl

/-- Two codes as errors are equal as their numbers are. -/
theorem eql_codes (a b : Int) (w : World) : (binOp .eql 27 (.iface 35 (.int .i64 a)) (.iface 35 (.int .i64 b))).run Try.prog w = .ok (.bool (a == b)) w := by
  obtain ⟨i, hi, hc⟩ := Option.map_eq_some_iff.1 code_comp
  have h : ∀ d : Nat, (Op.equalIn (d + 2) 27 (.iface 35 (.int .i64 a)) (.iface 35 (.int .i64 b))).run Try.prog w = .ok (a == b) w := fun d => by
    simp [Op.equalIn, run_underlying Try.underlying27, run_underlying Try.underlying35, typeInfo, hi, hc]
  simp only [binOp]
  simp [Op.equal, Op.maxDepth, h 9998]

theorem is_fault (g c : Nat) (st : ByteArray) (at' : Int) (w : World) (h : w.heap[g]? = some (.cells #[.string st, .int .i64 at', .iface 35 (.int .i64 c)] 80 (0, 0))) :
    Calls Try.prog 13 #[.iface 78 (.pointer (some ⟨g, 0, none⟩)), .iface 35 (.int .i64 c)] w fun e w' => e = .returned (.bool true) ∧ w' = w := by
  have hc2 : w.cell? ⟨g, 2, none⟩ = some (.iface 35 (.int .i64 c)) := by simp [World.cell?, h]
  clear h
  have h28 := type_call
  have h51 := comp_call
  have mC := comp_method
  have nF := no_is_f
  have uF := has_unwrap
  have mU := unwrap_method
  have hty := run_eql_iface_types (P := Try.prog) 78 35 (.pointer (some ⟨g, 0, none⟩)) (.int .i64 c) Try.underlying27 (by decide) w
  have heq := eql_codes c c w
  have hcc : ((c : Int) == (c : Int)) = true := by simp
  rw [hcc] at heq
  clear hcc
  go_enter Try.func13, Try.ntmps13
  go_wp2
  refine wp_loop_rounds 2 ?_
  rw [rounds_succ]
  go_wp2
  rw [rounds_succ]
  go_wp2
  go_ret
  exact ⟨rfl, rfl⟩
end Go.Proofs.Ytcclfibojmfjgab
