/- errors.Is of a reader's error and a code: the codes are one. -/
import Derived.Test.YtgbdnclolgdojaaCodeR2
import Derived.LaidEql
import Derived.Stop.Asserts
import Derived.RowKitTokens
namespace Go.Proofs.Ytgbdnclolgdojaa
open Go.ChangeShapes Go.WideShapes Go.ChangeAt Go.RowKit Go.Extern.Stop Go.Stop Go.Extern
set_option linter.unusedVariables false

theorem code_comp : (Try.prog.info? 59).map (·.comparable) = some true := by kernel_rfl
/-- Two codes as errors are equal as their numbers are. -/
theorem eql_codes (a b : Int) (w : World) : (binOp .eql 27 (.iface 59 (.int .i64 a)) (.iface 59 (.int .i64 b))).run Try.prog w = .ok (.bool (a == b)) w := by
  obtain ⟨i, hi, hc⟩ := Option.map_eq_some_iff.1 code_comp
  have h : ∀ d : Nat, (Op.equalIn (d + 2) 27 (.iface 59 (.int .i64 a)) (.iface 59 (.int .i64 b))).run Try.prog w = .ok (a == b) w := fun d => by
    simp [Op.equalIn, run_underlying Try.underlying27, run_underlying Try.underlying59, typeInfo, hi, hc]
  simp only [binOp]
  simp [Op.equal, Op.maxDepth, h 9998]

end Go.Proofs.Ytgbdnclolgdojaa
