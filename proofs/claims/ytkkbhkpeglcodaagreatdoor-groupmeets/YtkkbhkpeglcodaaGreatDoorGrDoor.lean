/- What the tied variables give a walk: strconv's table. -/
import Derived.Test.YtkkbhkpeglcodaaGreatDoorGrAwake
import Derived.Test.YtkkbhkpeglcodaaGreatDoorTie
import Derived.Test.YtkkbhkpeglcodaaGreatDoorCards
import Derived.LaidLaws
import Derived.LaidHandle
import Derived.LaidSub
import Derived.Lib.LaidTab
import Derived.Stop.Joined
namespace Go.Proofs.YtkkbhkpeglcodaaGreatDoor
open Go.ChangeShapes Go.WideShapes Go.ChangeAt Go.RowKit Go.Extern.Stop Go.Stop Go.Extern
set_option linter.unusedVariables false

abbrev seatLaid : List (String × DataW Unit) := [("math/bits.deBruijn32tab", Rows.laid_math_bits_deBruijn32tab), ("math/bits.deBruijn64tab", Rows.laid_math_bits_deBruijn64tab), ("internal/strconv.uint64pow10", Rows.laid_internal_strconv_uint64pow10)]
set_option maxRecDepth 100000 in
theorem genv_of_laid {W : World} (h : laidMetH Tryz.prog seatLaid W) : GEnv W := by
  obtain ⟨h1, h2⟩ := laidMetH_iff.1 h
  have f1 := h1.filter (fun x => x.1 == "internal/strconv.uint64pow10")
  have g1 : laidMet Tryz.prog [("internal/strconv.uint64pow10", Lib.tabData .u64 Lib.pow10Tab)] W := f1
  refine ⟨Lib.tabIs_of_head (P := Tryz.prog) (g := 4) (by kernel_rfl) (t := 197) (by kernel_rfl) Tryz.underlying197 Tryz.underlying35 (by kernel_rfl) (by kernel_rfl) g1, ?_⟩
  obtain ⟨ps, ⟨g', t', cs, fuel, p, q, hg', ht', hvar, hd, _, _⟩, _⟩ := g1
  have hgg : Tryz.prog.globalNamed "internal/strconv.uint64pow10" = some 4 := by kernel_rfl
  unfold World.var? at hvar
  rw [hgg] at hvar
  simp only [Option.bind_some] at hvar
  rcases Nat.lt_or_ge 4 W.heap.size with q | q
  · exact q
  · rw [Array.getElem?_eq_none q] at hvar; simp at hvar
/-- A world in which the variables hold what they should: that there is one. -/
def litCells : DataW Unit → Array Value
  | .agg ps => (ps.map fun | .lit (.int k n) => Value.int k n | _ => Value.nilIface).toArray
  | _ => #[]
def setB (h : Array Obj) (g : Nat) (cs : Array Value) : Array Obj := h.modify g fun | .cells _ t frozen => .cells cs t frozen | o => o
def witHeap (h : Array Obj) : Array Obj :=
  setB (setB (setB h 4 (litCells Rows.laid_internal_strconv_uint64pow10)) 5 (litCells Rows.laid_math_bits_deBruijn32tab)) 6 (litCells Rows.laid_math_bits_deBruijn64tab)
theorem wit_laid (os : Os) : laidMetH Tryz.prog seatLaid { World.holding Tryz.prog os ⟨#[], #[], []⟩ with heap := witHeap (World.holding Tryz.prog os ⟨#[], #[], []⟩).heap } :=
  laidMetH_of_parts (laidMet_of_run' 8 (by kernel_rfl) (by kernel_rfl)) (by kernel_rfl)
end Go.Proofs.YtkkbhkpeglcodaaGreatDoor
