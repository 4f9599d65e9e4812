/- wigwaglaw06's awake and at; errors.Is and errors.As of a fault. -/
import Derived.Test.YtcckoncgfmbhiabGreatDoorFilTry
import Derived.Test.YtcckoncgfmbhiabGreatDoorAsFault
import Derived.Test.YtcckoncgfmbhiabGreatDoorRowMath
namespace Go.Proofs.YtcckoncgfmbhiabGreatDoor
open Go.ChangeShapes Go.WideShapes Go.ChangeAt Go.RowKit Go.Extern.Stop Go.Stop Go.Extern
set_option linter.unusedVariables false

theorem no_is_fl (v : Value) (xT : TypeId) (w : World) : (Instr.typeAssert (.iface 59 v) xT 112 true).run Tryz.prog w = .ok (.tuple #[.nilIface, .bool false]) w := run_typeAssert_lacksB Tryz.underlying112 (by kernel_rfl) (by kernel_rfl) v xT w
theorem has_unwrapl (v : Value) (xT : TypeId) (w : World) : (Instr.typeAssert (.iface 59 v) xT 115 true).run Tryz.prog w = .ok (.tuple #[.iface 59 v, .bool true]) w := run_typeAssert_hasB Tryz.underlying115 (by kernel_rfl) v xT w
theorem unwrap_methodl (v : Value) (w : World) : (Go.method 285 59 v "Unwrap").run Tryz.prog w = .ok (99, v) w := by kernel_rfl
set_option maxRecDepth 100000 in
theorem is_faultl (g : Nat) (c at' : Int) (w : World) (h : FaultAt w g at' c) :
    Calls Tryz.prog 28 #[.iface 59 (.pointer (some ⟨g, 0, none⟩)), .iface 60 (.int .i64 c)] w fun e w' => e = .returned (.bool true) ∧ w' = w := by
  have hc2 : w.cell? ⟨g, 2, none⟩ = some (.iface 60 (.int .i64 c)) := by unfold FaultAt at h; simp [World.cell?, h]
  clear h
  have h28 := type_callL
  have h51 := comp_callL
  have mC := comp_methodL
  have nF := no_is_fl
  have uF := has_unwrapl
  have mU := unwrap_methodl
  have hty := run_eql_iface_types (P := Tryz.prog) 59 60 (.pointer (some ⟨g, 0, none⟩)) (.int .i64 c) Tryz.underlying39 (by decide) w
  have heq := eql_codesL c c w
  have hcc : (c == c) = true := by simp
  rw [hcc] at heq
  clear hcc
  go_enter Tryz.func28, Tryz.ntmps28
  go_wp2
  refine wp_loop_rounds 2 ?_
  rw [rounds_succ]
  go_wp2
  rw [rounds_succ]
  go_wp2
  go_ret
  exact ⟨rfl, rfl⟩
theorem FaultAt.below {w w' : World} {g : Nat} {a c : Int} (h : FaultAt w g a c) (hb : Below w.heap.size w w') : FaultAt w' g a c := (hb.block g (lt_of_block h)).trans h
/-- The predicates of a filter that was made lie where it shows. -/
theorem fil_cells {w : World} {B : Nat} {v : Value} {us : List Pl} (h : w.ownsRow B 49 5 v us.length (us.flatMap Pl.cells)) (h0 : 0 < us.length) (d : Pl) :
    ∃ g c, v = .slice (some ⟨g, 0, none⟩) us.length c ∧ us.length ≤ c ∧ B ≤ g ∧ g < w.heap.size ∧ ∀ i, i < us.length → ∀ j, j < 5 → w.cell? ⟨g, i * 5 + j, none⟩ = (us.getD i d).cells[j]? := by
  rcases h.2 with ⟨_, h1⟩ | ⟨g, cap, cur, hv, hb, hg, hnc, _⟩
  · omega
  · refine ⟨g, cap, hv, hnc, hb, lt_of_block hg, fun i hi j hj => ?_⟩
    have hx := flat_get Pl.cells 5 Pl.cells_len d us i j hi hj
    have hj' : j < (us.getD i d).cells.length := hj
    have e := h.cells (g := g) (by rw [hv]; rfl) (i * 5 + j) ((us.getD i d).cells[j]) (by rw [hx, List.getElem?_eq_getElem hj'])
    have ea : (⟨g, 0, none⟩ : Addr).add (i * 5 + j) = ⟨g, i * 5 + j, none⟩ := by unfold Addr.add; split <;> simp_all
    rw [ea] at e
    rw [e, List.getElem?_eq_getElem hj']
/-- What Parse answers, by the text's filter. -/
theorem ParsAns.ok {e : Ending} {w w' : World} {s : ByteArray} {ps : List Pl} {r : List UInt8} (h : ParsAns e w w' s) (hs : ¬ 300 < s.size) (hp : pars s.data.toList = .ok ps r) : ∃ v, e = .returned (.tuple #[v, .nilIface]) ∧ w'.ownsRow w.heap.size 49 5 v ps.length (ps.flatMap Pl.cells) := by
  unfold ParsAns at h; rw [if_neg hs, hp] at h; exact h
theorem ParsAns.fail {e : Ending} {w w' : World} {s : ByteArray} {b : Bool} {r : List UInt8} (h : ParsAns e w w' s) (hs : ¬ 300 < s.size) (hp : pars s.data.toList = .fail b r) : ∃ N, e = .returned (.tuple #[.slice none 0 0, .iface 59 (.pointer (some ⟨N, 0, none⟩))]) ∧ FaultAt w' N ((s.size - r.length : Nat) : Int) 2 := by
  unfold ParsAns at h; rw [if_neg hs, hp] at h; exact h

end Go.Proofs.YtcckoncgfmbhiabGreatDoor
