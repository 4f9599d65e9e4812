/- errors.Is of nothing, of another code. -/
import Derived.Test.YtpepbhmdfjpblaaGreatDoorIsCode
namespace Go.Proofs.YtpepbhmdfjpblaaGreatDoor
open Go.ChangeShapes Go.WideShapes Go.ChangeAt Go.RowKit Go.Extern.Stop Go.Stop Go.Extern
set_option linter.unusedVariables false

theorem eql_nil_code (c : Int) (w : World) : (binOp .eql 30 .nilIface (.iface 36 (.int .i64 c))).run Tryz.prog w = .ok (.bool false) w := by
  have h : ∀ d : Nat, (Op.equalIn (d + 2) 30 .nilIface (.iface 36 (.int .i64 c))).run Tryz.prog w = .ok false w := fun d => by
    simp [Op.equalIn, run_underlying Tryz.underlying30]
  simp only [binOp]
  simp [Op.equal, Op.maxDepth, h 9998]
set_option maxRecDepth 100000 in
theorem is_none (c : Int) (w : World) : Calls Tryz.prog 12 #[.nilIface, .iface 36 (.int .i64 c)] w fun e w' => e = .returned (.bool false) ∧ w' = w := by
  have heq := eql_nil_code c w
  go_enter Tryz.func12, Tryz.ntmps12
  go_wp2
  go_ret
  exact ⟨rfl, rfl⟩
theorem no_is_c (v : Value) (xT : TypeId) (w : World) : (Instr.typeAssert (.iface 36 v) xT 132 true).run Tryz.prog w = .ok (.tuple #[.nilIface, .bool false]) w := run_typeAssert_lacksB Tryz.underlying132 (by kernel_rfl) (by kernel_rfl) v xT w
theorem no_un_c (v : Value) (xT : TypeId) (w : World) : (Instr.typeAssert (.iface 36 v) xT 135 true).run Tryz.prog w = .ok (.tuple #[.nilIface, .bool false]) w := run_typeAssert_lacksB Tryz.underlying135 (by kernel_rfl) (by kernel_rfl) v xT w
theorem no_uns_c (v : Value) (xT : TypeId) (w : World) : (Instr.typeAssert (.iface 36 v) xT 136 true).run Tryz.prog w = .ok (.tuple #[.nilIface, .bool false]) w := run_typeAssert_lacksB Tryz.underlying136 (by kernel_rfl) (by kernel_rfl) v xT w

set_option maxRecDepth 100000 in
theorem is_other (a c : Int) (hac : a ≠ c) (w : World) :
    Calls Tryz.prog 12 #[.iface 36 (.int .i64 a), .iface 36 (.int .i64 c)] w fun e w' => e = .returned (.bool false) ∧ w' = w := by
  have h18 := type_callL
  have h45 := comp_callL
  have mC := comp_methodL
  have n1 := no_is_c
  have n2 := no_un_c
  have n3 := no_uns_c
  have heq := eql_codesL a c w
  have hcc : (a == c) = false := by simpa using hac
  rw [hcc] at heq
  clear hcc hac
  go_enter Tryz.func12, Tryz.ntmps12
  go_wp2
  refine wp_loop_rounds 1 ?_
  rw [rounds_succ]
  go_wp2
  go_ret
  exact ⟨rfl, rfl⟩
end Go.Proofs.YtpepbhmdfjpblaaGreatDoor
