/- What the tied variables give a walk: errors.errorType's cell, strconv's table and errors. -/
import Derived.Test.YtcckoncgfmbhiaaDoorFilAwake
import Derived.Test.YtcckoncgfmbhiaaDoorTie
import Derived.Test.YtcckoncgfmbhiaaDoorCards
import Derived.LaidLaws
import Derived.LaidHandle
import Derived.LaidSub
import Derived.Lib.LaidTab
import Derived.Stop.Joined
namespace Go.Proofs.YtcckoncgfmbhiaaDoor
open Go.ChangeShapes Go.WideShapes Go.ChangeAt Go.RowKit Go.Extern.Stop Go.Stop Go.Extern
set_option linter.unusedVariables false

abbrev seatLaid : List (String × DataW Unit) := [("math/bits.deBruijn32tab", Rows.laid_math_bits_deBruijn32tab), ("math/bits.deBruijn64tab", Rows.laid_math_bits_deBruijn64tab), ("internal/strconv.uint64pow10", Rows.laid_internal_strconv_uint64pow10), ("errors.errorType", Rows.laid_errors_errorType), ("strconv.ErrRange", Rows.laid_strconv_ErrRange), ("strconv.ErrSyntax", Rows.laid_strconv_ErrSyntax)]
theorem etD : Tryd.prog.globalNamed "errors.errorType" = some 0 := by kernel_rfl
theorem rtD : (Tryd.prog.cutTypes.find? (·.1 == "internal/reflectlite.rtype")).map (·.2) = some 88 := by kernel_rfl
theorem oneRowD : ((List.range Tryd.prog.types.size).filter fun t => Tryd.prog.rowNamed t [101, 114, 114, 111, 114]) = [26] := by kernel_rfl
set_option maxRecDepth 100000 in
/-- A variable of type error that holds a fault of the library's: its cell. -/
theorem iface_of_laid {W : World} {n : String} {g : Nat} {nm : String} {d : DataW Unit} (hg : Tryd.prog.globalNamed n = some g) (hty : (Tryd.prog.globals[g]?).map (·.type) = some 26) (h : laidMet Tryd.prog [(n, .iface nm d)] W) :
    ∃ t v, W.cell? ⟨g, 0, none⟩ = some (.iface t v) := by
  obtain ⟨ps, ⟨g', t', cs, fuel, p, q, hg', ht', hvar, hd, _, _⟩, _⟩ := h
  obtain rfl := Option.some.inj (hg.symm.trans hg')
  obtain rfl := Option.some.inj (hty.symm.trans ht')
  have hc := World.var?_cell hg hvar 0
  have hu := Tryd.underlying26
  obtain ⟨l⟩ := cs
  cases fuel with
  | zero => unfold DataW.trod at hd; cases hd
  | succ fuel =>
    unfold DataW.trod at hd
    rw [hu] at hd
    match l, hd, hc with
    | [.iface t v], _, hc => exact ⟨t, v, by simpa using hc⟩
    | [.nilIface], hd, _ => simp at hd
set_option maxRecDepth 100000 in
theorem env_of_laid {W : World} (h : laidMetH Tryd.prog seatLaid W) : Env W ∧ ErrType W := by
  obtain ⟨h1, h2⟩ := laidMetH_iff.1 h
  have f1 := h1.filter (fun x => x.1 == "internal/strconv.uint64pow10")
  have f2 := h1.filter (fun x => x.1 == "strconv.ErrSyntax")
  have f3 := h1.filter (fun x => x.1 == "strconv.ErrRange")
  have f4 := h1.filter (fun x => x.1 == "math/bits.deBruijn64tab")
  have g1 : laidMet Tryd.prog [("internal/strconv.uint64pow10", Lib.tabData .u64 Lib.pow10Tab)] W := f1
  have g2 : laidMet Tryd.prog [("strconv.ErrSyntax", Rows.laid_strconv_ErrSyntax)] W := f2
  have g3 : laidMet Tryd.prog [("strconv.ErrRange", Rows.laid_strconv_ErrRange)] W := f3
  have g4 : laidMet Tryd.prog [("math/bits.deBruijn64tab", Rows.laid_math_bits_deBruijn64tab)] W := f4
  refine ⟨⟨?_, iface_of_laid (by kernel_rfl) (by kernel_rfl) g2, iface_of_laid (by kernel_rfl) (by kernel_rfl) g3, ?_⟩, ?_⟩
  · exact Lib.tabIs_of_head (P := Tryd.prog) (g := 3) (by kernel_rfl) (t := 139) (by kernel_rfl) Tryd.underlying139 Tryd.underlying120 (by kernel_rfl) (by kernel_rfl) g1
  · obtain ⟨ps, ⟨g', t', cs, fuel, p, q, hg', ht', hvar, hd, _, _⟩, _⟩ := g4
    have hgg : Tryd.prog.globalNamed "math/bits.deBruijn64tab" = some 5 := by kernel_rfl
    unfold World.var? at hvar
    rw [hgg] at hvar
    simp only [Option.bind_some] at hvar
    have hlt : 5 < W.heap.size := by
      rcases Nat.lt_or_ge 5 W.heap.size with q | q
      · exact q
      · rw [Array.getElem?_eq_none q] at hvar; simp at hvar
    exact hlt
  · obtain ⟨name, u, ty, e1, e2, e3, e4, e5⟩ := h2 ("errors.errorType", Rows.laid_errors_errorType) (List.mem_filter.2 ⟨List.Mem.tail _ (List.Mem.tail _ (List.Mem.tail _ (List.Mem.head _))), rfl⟩)
    have en : name = [101, 114, 114, 111, 114] := (Option.some.inj e1).symm
    subst en
    obtain rfl := Option.some.inj (rtD.symm.trans e2)
    have hm : ty ∈ (List.range Tryd.prog.types.size).filter fun t => Tryd.prog.rowNamed t [101, 114, 114, 111, 114] := List.mem_filter.2 ⟨List.mem_range.2 e3, e4⟩
    rw [oneRowD] at hm
    obtain rfl := List.mem_singleton.1 hm
    have hh : typeHandle Tryd.prog 26 = .pointer (some ⟨6, 26, none⟩) := by kernel_rfl
    rw [hh] at e5
    unfold ErrType
    simpa using World.var?_cell etD e5 0
/-- A world in which the variables hold what they should: that there is one. -/
def litCells : DataW Unit → Array Value
  | .agg ps => (ps.map fun | .lit (.int k n) => Value.int k n | _ => Value.nilIface).toArray
  | _ => #[]
def setB (h : Array Obj) (g : Nat) (cs : Array Value) : Array Obj := h.modify g fun | .cells _ t frozen => .cells cs t frozen | o => o
def witHeap (h : Array Obj) : Array Obj :=
  ((setB (setB (setB (setB (setB (setB h 0 #[.iface 88 (.agg #[.pointer (some ⟨6, 26, none⟩)])]) 1 #[.iface 134 (.pointer (some ⟨h.size, 0, none⟩))]) 2 #[.iface 134 (.pointer (some ⟨h.size + 1, 0, none⟩))])
    3 (litCells Rows.laid_internal_strconv_uint64pow10)) 4 (litCells Rows.laid_math_bits_deBruijn32tab)) 5 (litCells Rows.laid_math_bits_deBruijn64tab)).push
      (.cells #[.string ⟨#[105, 110, 118, 97, 108, 105, 100, 32, 115, 121, 110, 116, 97, 120]⟩] 136)).push (.cells #[.string ⟨#[118, 97, 108, 117, 101, 32, 111, 117, 116, 32, 111, 102, 32, 114, 97, 110, 103, 101]⟩] 136)
theorem wit_laid (os : Os) : laidMetH Tryd.prog seatLaid { World.holding Tryd.prog os ⟨#[], #[], []⟩ with heap := witHeap (World.holding Tryd.prog os ⟨#[], #[], []⟩).heap } :=
  laidMetH_of_parts (laidMet_of_run' 8 (by kernel_rfl) (by kernel_rfl)) (by kernel_rfl)
end Go.Proofs.YtcckoncgfmbhiaaDoor
