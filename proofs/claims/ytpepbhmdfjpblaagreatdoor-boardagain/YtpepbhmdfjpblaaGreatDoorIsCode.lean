/- errors.Is of two like codes. -/
import Derived.Test.YtpepbhmdfjpblaaGreatDoorRows
import Derived.Test.YtpepbhmdfjpblaaGreatDoorAid
import Derived.LaidEql
import Derived.Stop.Asserts
import Derived.RowKitTokens
import Derived.WalkKit
import Derived.ProofKit
import Derived.OpenShut
import Derived.WalkLawsBesides
import Derived.Outline
namespace Go.Proofs.YtpepbhmdfjpblaaGreatDoor
open Go.ChangeShapes Go.WideShapes Go.ChangeAt Go.RowKit Go.Extern.Stop Go.Stop Go.Extern
set_option linter.unusedVariables false

theorem type_callL (v : Value) (w : World) : Sem.run Tryz.prog (callFunc 28 #[.iface 36 v]) w = .ok (.value (.iface 130 (.agg #[.pointer (some ⟨6, 36, none⟩)]))) w := by
  rw [@run_callFunc_extern Tryz.prog 28 _ Extern.ReflectliteType.typeOf Tryz.func28 (by kernel_rfl) (by kernel_rfl) (by kernel_rfl) (by kernel_rfl)]
  kernel_rfl
theorem comp_callL (w : World) : Sem.run Tryz.prog (callFunc 167 #[.agg #[.pointer (some ⟨6, 36, none⟩)]]) w = .ok (.value (.bool true)) w := by
  rw [@run_callFunc_extern Tryz.prog 167 _ (Extern.ReflectliteType.method fun t => do Go.Extern.Rtype.noPackHeld "Comparable" t; pure (.bool (← typeInfo t).comparable)) Tryz.func167 (by kernel_rfl) (by kernel_rfl) (by kernel_rfl) (by kernel_rfl)]
  kernel_rfl
theorem comp_methodL (v : Value) (w : World) : (Go.method 393 130 v "Comparable").run Tryz.prog w = .ok (167, v) w := by kernel_rfl
theorem code_compL : (Tryz.prog.info? 36).map (·.comparable) = some true := by kernel_rfl
/-- Two codes as errors are equal as their numbers are. -/
theorem eql_codesL (a b : Int) (w : World) : (binOp .eql 30 (.iface 36 (.int .i64 a)) (.iface 36 (.int .i64 b))).run Tryz.prog w = .ok (.bool (a == b)) w := by
  obtain ⟨i, hi, hc⟩ := Option.map_eq_some_iff.1 code_compL
  have h : ∀ d : Nat, (Op.equalIn (d + 2) 30 (.iface 36 (.int .i64 a)) (.iface 36 (.int .i64 b))).run Tryz.prog w = .ok (a == b) w := fun d => by
    simp [Op.equalIn, run_underlying Tryz.underlying30, run_underlying Tryz.underlying36, typeInfo, hi, hc]
  simp only [binOp]
  simp [Op.equal, Op.maxDepth, h 9998]

set_option maxRecDepth 100000 in
theorem is_code (c : Int) (w : World) :
    Calls Tryz.prog 12 #[.iface 36 (.int .i64 c), .iface 36 (.int .i64 c)] w fun e w' => e = .returned (.bool true) ∧ w' = w := by
  have h18 := type_callL
  have h45 := comp_callL
  have mC := comp_methodL
  have heq := eql_codesL c c w
  have hcc : (c == c) = true := by simp
  rw [hcc] at heq
  clear hcc
  go_enter Tryz.func12, Tryz.ntmps12
  go_wp2
  refine wp_loop_rounds 1 ?_
  rw [rounds_succ]
  go_wp2
  go_ret
  exact ⟨rfl, rfl⟩
end Go.Proofs.YtpepbhmdfjpblaaGreatDoor
