/- What five tied variables give a walk: strconv's table, and its two errors besides. -/
import Derived.Test.YtiafamfnbpbfiaaGreatDoorGrDoor
namespace Go.Proofs.YtiafamfnbpbfiaaGreatDoor
open Go.ChangeShapes Go.WideShapes Go.ChangeAt Go.RowKit Go.Extern.Stop Go.Stop Go.Extern
set_option linter.unusedVariables false

abbrev seatLaid5 : List (String × DataW Unit) := [("math/bits.deBruijn32tab", Rows.laid_math_bits_deBruijn32tab), ("math/bits.deBruijn64tab", Rows.laid_math_bits_deBruijn64tab), ("internal/strconv.uint64pow10", Rows.laid_internal_strconv_uint64pow10), ("strconv.ErrRange", Rows.laid_strconv_ErrRange), ("strconv.ErrSyntax", Rows.laid_strconv_ErrSyntax)]
set_option maxRecDepth 100000 in
theorem genv_of_laid5 {W : World} (h : laidMetH Tryz.prog seatLaid5 W) : GEnv W := by
  obtain ⟨h1, h2⟩ := laidMetH_iff.1 h
  have f1 := h1.filter (fun x => x.1 == "internal/strconv.uint64pow10")
  have g1 : laidMet Tryz.prog [("internal/strconv.uint64pow10", Lib.tabData .u64 Lib.pow10Tab)] W := f1
  refine ⟨Lib.tabIs_of_head (P := Tryz.prog) (g := 4) (by kernel_rfl) (t := 197) (by kernel_rfl) Tryz.underlying197 Tryz.underlying35 (by kernel_rfl) (by kernel_rfl) g1, ?_⟩
  obtain ⟨ps, ⟨g', t', cs, fuel, p, q, hg', ht', hvar, hd, _, _⟩, _⟩ := g1
  have hgg : Tryz.prog.globalNamed "internal/strconv.uint64pow10" = some 4 := by kernel_rfl
  unfold World.var? at hvar
  rw [hgg] at hvar
  simp only [Option.bind_some] at hvar
  rcases Nat.lt_or_ge 4 W.heap.size with q | q
  · exact q
  · rw [Array.getElem?_eq_none q] at hvar; simp at hvar
/-- A world in which the variables hold what they should: that there is one. -/
def witHeap5 (h : Array Obj) : Array Obj :=
  ((setB (setB (setB (setB (setB h 2 #[.iface 193 (.pointer (some ⟨h.size, 0, none⟩))]) 3 #[.iface 193 (.pointer (some ⟨h.size + 1, 0, none⟩))])
    4 (litCells Rows.laid_internal_strconv_uint64pow10)) 5 (litCells Rows.laid_math_bits_deBruijn32tab)) 6 (litCells Rows.laid_math_bits_deBruijn64tab)).push
      (.cells #[.string ⟨#[105, 110, 118, 97, 108, 105, 100, 32, 115, 121, 110, 116, 97, 120]⟩] 195)).push (.cells #[.string ⟨#[118, 97, 108, 117, 101, 32, 111, 117, 116, 32, 111, 102, 32, 114, 97, 110, 103, 101]⟩] 195)
theorem wit_laid5 (os : Os) : laidMetH Tryz.prog seatLaid5 { World.holding Tryz.prog os ⟨#[], #[], []⟩ with heap := witHeap5 (World.holding Tryz.prog os ⟨#[], #[], []⟩).heap } :=
  laidMetH_of_parts (laidMet_of_run' 8 (by kernel_rfl) (by kernel_rfl)) (by kernel_rfl)
end Go.Proofs.YtiafamfnbpbfiaaGreatDoor
