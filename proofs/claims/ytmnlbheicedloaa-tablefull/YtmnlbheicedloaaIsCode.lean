/- errors.Is of two like codes. -/
import Derived.Test.YtmnlbheicedloaaRows
import Derived.Test.YtmnlbheicedloaaAid
import Derived.LaidEql
import Derived.Stop.Asserts
import Derived.RowKitTokens
import Derived.WalkKit
import Derived.ProofKit
import Derived.OpenShut
import Derived.WalkLawsBesides
import Derived.Outline
namespace Go.Proofs.Ytmnlbheicedloaa
open Go.ChangeShapes Go.WideShapes Go.ChangeAt Go.RowKit Go.Extern.Stop Go.Stop Go.Extern
set_option linter.unusedVariables false

theorem type_callL (v : Value) (w : World) : Sem.run Try.prog (callFunc 30 #[.iface 42 v]) w = .ok (.value (.iface 73 (.agg #[.pointer (some ⟨0, 42, none⟩)]))) w := by
  rw [@run_callFunc_extern Try.prog 30 _ Extern.ReflectliteType.typeOf Try.func30 (by kernel_rfl) (by kernel_rfl) (by kernel_rfl) (by kernel_rfl)]
  kernel_rfl
theorem comp_callL (w : World) : Sem.run Try.prog (callFunc 70 #[.agg #[.pointer (some ⟨0, 42, none⟩)]]) w = .ok (.value (.bool true)) w := by
  rw [@run_callFunc_extern Try.prog 70 _ (Extern.ReflectliteType.method fun t => do Go.Extern.Rtype.noPackHeld "Comparable" t; pure (.bool (← typeInfo t).comparable)) Try.func70 (by kernel_rfl) (by kernel_rfl) (by kernel_rfl) (by kernel_rfl)]
  kernel_rfl
theorem comp_methodL (v : Value) (w : World) : (Go.method 223 73 v "Comparable").run Try.prog w = .ok (70, v) w := by kernel_rfl
theorem code_compL : (Try.prog.info? 42).map (·.comparable) = some true := by kernel_rfl
/-- Two codes as errors are equal as their numbers are. -/
theorem eql_codesL (a b : Int) (w : World) : (binOp .eql 28 (.iface 42 (.int .i64 a)) (.iface 42 (.int .i64 b))).run Try.prog w = .ok (.bool (a == b)) w := by
  obtain ⟨i, hi, hc⟩ := Option.map_eq_some_iff.1 code_compL
  have h : ∀ d : Nat, (Op.equalIn (d + 2) 28 (.iface 42 (.int .i64 a)) (.iface 42 (.int .i64 b))).run Try.prog w = .ok (a == b) w := fun d => by
    simp [Op.equalIn, run_underlying Try.underlying28, run_underlying Try.underlying42, typeInfo, hi, hc]
  simp only [binOp]
  simp [Op.equal, Op.maxDepth, h 9998]

set_option maxRecDepth 100000 in
theorem is_code (c : Int) (w : World) :
    Calls Try.prog 16 #[.iface 42 (.int .i64 c), .iface 42 (.int .i64 c)] w fun e w' => e = .returned (.bool true) ∧ w' = w := by
  have h18 := type_callL
  have h45 := comp_callL
  have mC := comp_methodL
  have heq := eql_codesL c c w
  have hcc : (c == c) = true := by simp
  rw [hcc] at heq
  clear hcc
  go_enter Try.func16, Try.ntmps16
  go_wp2
  refine wp_loop_rounds 1 ?_
  rw [rounds_succ]
  go_wp2
  go_ret
  exact ⟨rfl, rfl⟩
end Go.Proofs.Ytmnlbheicedloaa
