/- errors.Is of a reader's error and a code: the codes are one. -/
import Derived.Test.YthadgekojenpjaaCodeR2
import Derived.LaidEql
import Derived.Stop.Asserts
import Derived.RowKitTokens
namespace Go.Proofs.Ythadgekojenpjaa
open Go.ChangeShapes Go.WideShapes Go.ChangeAt Go.RowKit Go.Extern.Stop Go.Stop Go.Extern
set_option linter.unusedVariables false

theorem type_call (v : Value) (w : World) : Sem.run Try.prog (callFunc 28 #[.iface 54 v]) w = .ok (.value (.iface 66 (.agg #[.pointer (some ⟨0, 54, none⟩)]))) w := by
  rw [@run_callFunc_extern Try.prog 28 _ Extern.ReflectliteType.typeOf Try.func28 (by kernel_rfl) (by kernel_rfl) (by kernel_rfl) (by kernel_rfl)]
  kernel_rfl
theorem comp_call (w : World) : Sem.run Try.prog (callFunc 51 #[.agg #[.pointer (some ⟨0, 54, none⟩)]]) w = .ok (.value (.bool true)) w := by
  rw [@run_callFunc_extern Try.prog 51 _ (Extern.ReflectliteType.method fun t => do Go.Extern.Rtype.noPackHeld "Comparable" t; pure (.bool (← typeInfo t).comparable)) Try.func51 (by kernel_rfl) (by kernel_rfl) (by kernel_rfl) (by kernel_rfl)]
  kernel_rfl
theorem comp_method (v : Value) (w : World) : (Go.method 207 66 v "Comparable").run Try.prog w = .ok (51, v) w := by kernel_rfl
theorem code_comp : (Try.prog.info? 54).map (·.comparable) = some true := by kernel_rfl
theorem no_is_f (v : Value) (xT : TypeId) (w : World) : (Instr.typeAssert (.iface 62 v) xT 68 true).run Try.prog w = .ok (.tuple #[.nilIface, .bool false]) w := run_typeAssert_lacksB Try.underlying68 (by kernel_rfl) (by kernel_rfl) v xT w
theorem has_unwrap (v : Value) (xT : TypeId) (w : World) : (Instr.typeAssert (.iface 62 v) xT 71 true).run Try.prog w = .ok (.tuple #[.iface 62 v, .bool true]) w := run_typeAssert_hasB Try.underlying71 (by kernel_rfl) v xT w
theorem unwrap_method (v : Value) (w : World) : (Go.method 207 62 v "Unwrap").run Try.prog w = .ok (47, v) w := by kernel_rfl

/-- Two codes as errors are equal as their numbers are. -/
theorem eql_codes (a b : Int) (w : World) : (binOp .eql 43 (.iface 54 (.int .i64 a)) (.iface 54 (.int .i64 b))).run Try.prog w = .ok (.bool (a == b)) w := by
  obtain ⟨i, hi, hc⟩ := Option.map_eq_some_iff.1 code_comp
  have h : ∀ d : Nat, (Op.equalIn (d + 2) 43 (.iface 54 (.int .i64 a)) (.iface 54 (.int .i64 b))).run Try.prog w = .ok (a == b) w := fun d => by
    simp [Op.equalIn, run_underlying Try.underlying43, run_underlying Try.underlying54, typeInfo, hi, hc]
  simp only [binOp]
  simp [Op.equal, Op.maxDepth, h 9998]

theorem is_fault (g c : Nat) (st : ByteArray) (at' : Int) (w : World) (h : w.heap[g]? = some (.cells #[.string st, .int .i64 at', .iface 54 (.int .i64 c)] 64 (0, 0))) :
    Calls Try.prog 26 #[.iface 62 (.pointer (some ⟨g, 0, none⟩)), .iface 54 (.int .i64 c)] w fun e w' => e = .returned (.bool true) ∧ w' = w := by
  have hc2 : w.cell? ⟨g, 2, none⟩ = some (.iface 54 (.int .i64 c)) := by simp [World.cell?, h]
  clear h
  have h28 := type_call
  have h51 := comp_call
  have mC := comp_method
  have nF := no_is_f
  have uF := has_unwrap
  have mU := unwrap_method
  have hty := run_eql_iface_types (P := Try.prog) 62 54 (.pointer (some ⟨g, 0, none⟩)) (.int .i64 c) Try.underlying43 (by decide) w
  have heq := eql_codes c c w
  have hcc : ((c : Int) == (c : Int)) = true := by simp
  rw [hcc] at heq
  clear hcc
  go_enter Try.func26, Try.ntmps26
  go_wp2
  refine wp_loop_rounds 2 ?_
  rw [rounds_succ]
  go_wp2
  rw [rounds_succ]
  go_wp2
  go_ret
  exact ⟨rfl, rfl⟩
end Go.Proofs.Ythadgekojenpjaa
