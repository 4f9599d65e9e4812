/- Stabilize. -/
import Derived.Test.YtkkkldglceiiiaaGreatChJoin
import Derived.Deep.RegionWith
namespace Go.Proofs.YtkkkldglceiiiaaGreat
open Go.ChangeShapes Go.WideShapes Go.ChangeAt Go.RowKit Go.Deep
set_option linter.unusedVariables false

def Rg.stabC (R : Rg) (n : Int) : Int := if R.lives n then 0 else 6
/-- Whom a member takes for the next one. -/
def Rg.next (R : Rg) (n : Int) : Int := if R.near (R.know (R.head n)).pred (R.know n).id (R.head n) then (R.know (R.head n)).pred else R.head n
def Rg.learn (R : Rg) (n s : Int) : Rg := R.setK n ⟨(R.know n).id, (R.know n).pred, s :: (R.know s).succ.take 2⟩
def Rg.tell (R : Rg) (s n : Int) : Rg := R.setK s ⟨(R.know s).id, R.rect (R.know s).id (R.know s).pred n, (R.know s).succ⟩
def Rg.stab (R : Rg) (n : Int) : Rg := if R.lives n then (R.learn n (R.next n)).tell (R.next n) n else R

theorem field_pred1 (v0 v2 : Value) (x : Int) (w : World) : (Instr.field 54 (.agg #[v0, .int .i64 x, v2]) 1).run Tryz.prog w = .ok (.int .i64 x) w := by kernel_rfl

theorem RingAt.pred_i64 {w : World} {r gp gk : Nat} {R : Rg} (h : RingAt w r gp gk R) (n : Int) : i64 (R.know n).pred := by
  obtain ⟨a, len, cap, hp, _⟩ := h.asked n
  exact hp.hpred
theorem RingAt.head_i64 {w : World} {r gp gk : Nat} {R : Rg} (h : RingAt w r gp gk R) (n : Int) : i64 (R.head n) := headF_i64 (h.succ_i64 n)
theorem RingAt.next_i64 {w : World} {r gp gk : Nat} {R : Rg} (h : RingAt w r gp gk R) (n : Int) : i64 (R.next n) := by
  unfold Rg.next; split
  · exact h.pred_i64 _
  · exact h.head_i64 n
theorem rect_or (R : Rg) (id pred n : Int) : R.rect id pred n = n ∨ R.rect id pred n = pred := by
  unfold Rg.rect; split
  · exact .inl rfl
  · exact .inr rfl

end Go.Proofs.YtkkkldglceiiiaaGreat
