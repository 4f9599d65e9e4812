/- taken, needed, ahead. -/
import Derived.Test.YtkkkldglceiiiaaGreatChLive
import Derived.Deep.CutBlock
import Derived.Deep.DeepCutAuto
namespace Go.Proofs.YtkkkldglceiiiaaGreat
open Go.ChangeShapes Go.WideShapes Go.ChangeAt Go.RowKit Go.Deep
set_option linter.unusedVariables false

def Rg.taken (R : Rg) (id : Int) : Bool := anyF (fun n => R.idOf n == id) R.live
/-- Is a member the only one behind another one? -/
def Rg.lone (R : Rg) (n m : Int) : Bool := m != n && headF (fun x => x != -1 && (x != n && R.lives x)) (R.know m).succ == -1
def Rg.needed (R : Rg) (n : Int) : Bool := anyF (fun m => R.lone n m) R.live

/-- A look-up of a member, in every world that has grown out of this one. -/
theorem RingAt.askedAll {w : World} {r gp gk : Nat} {R : Rg} (h : RingAt w r gp gk R) (n : Int) :
    ∃ a len cap, PeIn w (R.know n).id (R.know n).pred a len cap (R.know n).succ ∧ ∀ w', Below w.heap.size w w' →
      (Instr.lookup 48 (.map (some gk)) (.int .i64 n) false).run Tryz.prog w' = .ok (.agg #[.int .u64 (R.know n).id, .int .i64 (R.know n).pred, .slice a len cap]) w' := by
  obtain ⟨mk, hk, hk'⟩ := h.known
  have q := hk' n
  cases hn : R.kn n with
  | none =>
    rw [hn] at q
    cases hl : look mk n with
    | some v => rw [hl] at q; exact q.elim
    | none =>
      refine ⟨none, 0, 0, ?_, fun w' hb => ?_⟩ <;> simp only [Rg.know, hn, Option.getD_none, pe0]
      · exact pe0_in w
      · exact (run_look_none (hk.of_block (hb.block gk hk.lt)) Tryz.underlying48 Tryz.underlying3 (zero_pe w') hl).2
  | some p =>
    rw [hn] at q
    cases hl : look mk n with
    | none => rw [hl] at q; exact q.elim
    | some v =>
      rw [hl] at q
      obtain ⟨a, len, cap, rfl, hp, _⟩ := q
      refine ⟨a, len, cap, ?_, fun w' hb => ?_⟩ <;> simp only [Rg.know, hn, Option.getD_some]
      · exact hp
      · exact (run_look_some (hk.of_block (hb.block gk hk.lt)) Tryz.underlying48 Tryz.underlying3 hl).2

/-- The first one, head by head, that a place comes next behind. -/
def Rg.head (R : Rg) (n : Int) : Int := headF R.lv (R.know n).succ
def Rg.aheadF (R : Rg) (id : Int) : Nat → Int → Int
  | 0, _ => -1
  | k + 1, x => if withinB id (R.idOf x) (R.idOf (R.head x)) then x else R.aheadF id k (R.head x)
def Rg.ahead (R : Rg) (id frm : Int) : Int := R.aheadF id 33 frm

end Go.Proofs.YtkkkldglceiiiaaGreat
