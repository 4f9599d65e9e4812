/- errors.Is of a reader's error and a code: the codes are one. -/
import Derived.Test.YthadgekojenpjabDoorCodeR2
import Derived.LaidEql
import Derived.Stop.Asserts
import Derived.RowKitTokens
namespace Go.Proofs.YthadgekojenpjabDoor
open Go.ChangeShapes Go.WideShapes Go.ChangeAt Go.RowKit Go.Extern.Stop Go.Stop Go.Extern
set_option linter.unusedVariables false

theorem type_call (v : Value) (w : World) : Sem.run Tryd.prog (callFunc 19 #[.iface 36 v]) w = .ok (.value (.iface 68 (.agg #[.pointer (some ⟨1, 36, none⟩)]))) w := by
  rw [@run_callFunc_extern Tryd.prog 19 _ Extern.ReflectliteType.typeOf Tryd.func19 (by kernel_rfl) (by kernel_rfl) (by kernel_rfl) (by kernel_rfl)]
  kernel_rfl
theorem comp_call (w : World) : Sem.run Tryd.prog (callFunc 52 #[.agg #[.pointer (some ⟨1, 36, none⟩)]]) w = .ok (.value (.bool true)) w := by
  rw [@run_callFunc_extern Tryd.prog 52 _ (Extern.ReflectliteType.method fun t => do Go.Extern.Rtype.noPackHeld "Comparable" t; pure (.bool (← typeInfo t).comparable)) Tryd.func52 (by kernel_rfl) (by kernel_rfl) (by kernel_rfl) (by kernel_rfl)]
  kernel_rfl
theorem comp_method (v : Value) (w : World) : (Go.method 210 68 v "Comparable").run Tryd.prog w = .ok (52, v) w := by kernel_rfl
theorem code_comp : (Tryd.prog.info? 36).map (·.comparable) = some true := by kernel_rfl
theorem no_is_f (v : Value) (xT : TypeId) (w : World) : (Instr.typeAssert (.iface 49 v) xT 70 true).run Tryd.prog w = .ok (.tuple #[.nilIface, .bool false]) w := run_typeAssert_lacksB Tryd.underlying70 (by kernel_rfl) (by kernel_rfl) v xT w
theorem has_unwrap (v : Value) (xT : TypeId) (w : World) : (Instr.typeAssert (.iface 49 v) xT 73 true).run Tryd.prog w = .ok (.tuple #[.iface 49 v, .bool true]) w := run_typeAssert_hasB Tryd.underlying73 (by kernel_rfl) v xT w
theorem unwrap_method (v : Value) (w : World) : (Go.method 210 49 v "Unwrap").run Tryd.prog w = .ok (46, v) w := by kernel_rfl

/-- Two codes as errors are equal as their numbers are. -/
theorem eql_codes (a b : Int) (w : World) : (binOp .eql 33 (.iface 36 (.int .i64 a)) (.iface 36 (.int .i64 b))).run Tryd.prog w = .ok (.bool (a == b)) w := by
  obtain ⟨i, hi, hc⟩ := Option.map_eq_some_iff.1 code_comp
  have h : ∀ d : Nat, (Op.equalIn (d + 2) 33 (.iface 36 (.int .i64 a)) (.iface 36 (.int .i64 b))).run Tryd.prog w = .ok (a == b) w := fun d => by
    simp [Op.equalIn, run_underlying Tryd.underlying33, run_underlying Tryd.underlying36, typeInfo, hi, hc]
  simp only [binOp]
  simp [Op.equal, Op.maxDepth, h 9998]

theorem is_fault (g c : Nat) (st : ByteArray) (at' : Int) (w : World) (h : w.heap[g]? = some (.cells #[.string st, .int .i64 at', .iface 36 (.int .i64 c)] 51 (0, 0))) :
    Calls Tryd.prog 17 #[.iface 49 (.pointer (some ⟨g, 0, none⟩)), .iface 36 (.int .i64 c)] w fun e w' => e = .returned (.bool true) ∧ w' = w := by
  have hc2 : w.cell? ⟨g, 2, none⟩ = some (.iface 36 (.int .i64 c)) := by simp [World.cell?, h]
  clear h
  have h28 := type_call
  have h51 := comp_call
  have mC := comp_method
  have nF := no_is_f
  have uF := has_unwrap
  have mU := unwrap_method
  have hty := run_eql_iface_types (P := Tryd.prog) 49 36 (.pointer (some ⟨g, 0, none⟩)) (.int .i64 c) Tryd.underlying33 (by decide) w
  have heq := eql_codes c c w
  have hcc : ((c : Int) == (c : Int)) = true := by simp
  rw [hcc] at heq
  clear hcc
  go_enter Tryd.func17, Tryd.ntmps17
  go_wp2
  refine wp_loop_rounds 2 ?_
  rw [rounds_succ]
  go_wp2
  rw [rounds_succ]
  go_wp2
  go_ret
  exact ⟨rfl, rfl⟩
end Go.Proofs.YthadgekojenpjabDoor
