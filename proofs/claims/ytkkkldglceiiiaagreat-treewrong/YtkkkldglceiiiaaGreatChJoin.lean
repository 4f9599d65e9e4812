/- Join, Fail. -/
import Derived.Test.YtkkkldglceiiiaaGreatChTake
namespace Go.Proofs.YtkkkldglceiiiaaGreat
open Go.ChangeShapes Go.WideShapes Go.ChangeAt Go.RowKit Go.Deep
set_option linter.unusedVariables false

/-- An error by its code; 0: none. -/
def errV (c : Int) : Value := if c = 0 then .nilIface else .iface 43 (.int .i64 c)
def Rg.joinC (R : Rg) (n id via : Int) : Int := if n < 0 ∨ 32 ≤ n then 1 else if (R.pl n).isSome then 7 else if !R.lives via then 6 else if R.taken id then 8 else if R.ahead id via = -1 then 5 else 0
def Rg.joined (R : Rg) (n id x : Int) : Rg := (R.setP n id).setK n ⟨id, x, (R.know x).succ⟩
def Rg.join (R : Rg) (n id via : Int) : Rg := if R.joinC n id via = 0 then R.joined n id (R.ahead id via) else R
def Rg.failC (R : Rg) (n : Int) : Int := if !R.lives n then 6 else if n < 4 ∨ R.needed n = true then 5 else 0
def Rg.fail (R : Rg) (n : Int) : Rg := if R.failC n = 0 then R.delK n else R

theorem RingAt.succ_i64 {w : World} {r gp gk : Nat} {R : Rg} (h : RingAt w r gp gk R) (n : Int) : ∀ x ∈ (R.know n).succ, i64 x := by
  obtain ⟨a, len, cap, hp, _⟩ := h.asked n
  exact ints_ok hp.row
theorem headF_i64 {L : Int → Bool} {l : List Int} (h : ∀ x ∈ l, i64 x) : i64 (headF L l) := by
  induction l with
  | nil => simp [headF, i64]
  | cons a l ih =>
    cases q : L a
    · simp only [headF, q]; exact ih (fun x hx => h x (List.mem_cons_of_mem _ hx))
    · simp only [headF, q]; exact h a (List.mem_cons_self ..)
theorem RingAt.ahead_i64 {w : World} {r gp gk : Nat} {R : Rg} (h : RingAt w r gp gk R) (id via : Int) (hv : i64 via) : i64 (R.ahead id via) := by
  unfold Rg.ahead
  generalize 33 = k
  induction k generalizing via with
  | zero => simp [Rg.aheadF, i64]
  | succ k ih =>
    unfold Rg.aheadF
    split
    · exact hv
    · exact ih _ (headF_i64 (h.succ_i64 via))

theorem field_succ (v0 v1 : Value) (a : Option Addr) (l c : Nat) (w : World) : (Instr.field 54 (.agg #[v0, v1, .slice a l c]) 2).run Tryz.prog w = .ok (.slice a l c) w := by kernel_rfl

end Go.Proofs.YtkkkldglceiiiaaGreat
