/- slices.Grow of nothing, slices.Concat of two lists of ints. -/
import Derived.Test.YtkkkldglceiiiaaGreatChPeer
import Derived.LoopN
namespace Go.Proofs.YtkkkldglceiiiaaGreat
open Go.ChangeShapes Go.WideShapes Go.ChangeAt Go.RowKit Go.Deep
set_option linter.unusedVariables false

theorem wpList_append_run {P : Program} {w : World} {ops : Array Oper} {rest : List Oper} {o : Oper} {a : Act} {Q : Exit → Act → World → Prop} (hgd : o.guard = none) (s x : Operand) (t tx : TypeId)
    (ho : o.op = .call { callee := .builtin .append, args := #[s, x], argTypes := #[t, tx] }) (v : Value) (xv : Value) (hv : a.eval s = v) (hx : a.eval x = xv) (v' : Value) (w' : World)
    (hrun : (Builtin.append_ #[t, tx] o.type #[v, xv]).run P w = .ok v' w') (hK : wpList P ops Q rest (a.put o.dst v') w') : wpList P ops Q (o :: rest) a w := by
  refine wpList_plain hgd fun K hK' => ?_
  unfold Oper.wp
  simp [execOp, ho, resolve, invoke, builtin, hv, hx, hrun, Result.andThen]
  exact hK' _ _ hK

/-- append(nil, make([]int, 3)...). -/
theorem run_grow3 (w : World) (ty : TypeId) :
    (Builtin.append_ #[30, 3] ty #[.slice none 0 0, .int .i64 3]).run Tryz.prog w =
      .ok (.slice (some ⟨w.heap.size, 0, none⟩) 3 (grownCap w 3 0 3)) (w.drew.alloc (.cells (Builtin.zeroCells #[.int .i64 0] 3 ++ Builtin.zeroCells #[.int .i64 0] (grownCap w 3 0 3 - 3)) 3)) := by
  obtain ⟨i0, hi, hz0, hz1, hz2⟩ := info_of Tryz.infoInt
  have hs : IntKind.i64.wrap 3 = 3 := by decide
  simp [Builtin.append_, run_underlying Tryz.underlying30, run_underlying Tryz.underlying3, sizeOf, typeInfo, zeroValue, hi, hz0, hz1, hz2, Question.forced, newRow, grownCap, Builtin.firstCells, asInt, asIntOf, hs, Builtin.nextslicecap, Value.cells, askRoom]
  intro h; omega

set_option maxRecDepth 100000 in
set_option maxHeartbeats 1000000 in
theorem grow3_r (w : World) :
    Calls Tryz.prog 35 #[.slice none 0 0, .int .i64 3] w fun e w' => ∃ v, e = .returned v ∧ w'.ownsRow w.heap.size 3 1 v 0 [] ∧ Below w.heap.size w w' := by
  have hc1 : 3 ≤ grownCap w 3 0 3 := grownCap_ge w 3 0 3
  have hc2 : grownCap w 3 0 3 ≤ maxLen := grownCap_le_maxLen w 3 0 3 (by decide)
  have hr := run_grow3 w
  obtain ⟨W, hW⟩ : ∃ W, W = w.drew.alloc (.cells (Builtin.zeroCells #[.int .i64 0] 3 ++ Builtin.zeroCells #[.int .i64 0] (grownCap w 3 0 3 - 3)) 3) := ⟨_, rfl⟩
  have HB : Hid (Below w.heap.size w W) := by rw [hW]; exact (Below.refl _ _ : Below w.heap.size w w).trans ⟨rfl, rfl, rfl, by simp, fun k hk => Below.heap_alloc w.drew _ k hk⟩
  have HG : Hid (W.heap[w.heap.size]? = some (.cells (Builtin.zeroCells #[.int .i64 0] 3 ++ Builtin.zeroCells #[.int .i64 0] (grownCap w 3 0 3 - 3)) 3 (0, 0))) := by rw [hW]; exact heap_alloc_new w.drew _
  generalize grownCap w 3 0 3 = c at *
  rw [← hW] at hr
  have HR : Hid _ := hr
  clear hr hW
  unfold maxLen at hc2
  have hc3 : 0 ≤ c := by omega
  go_enter Tryz.func35, Tryz.ntmps35
  go_wp2_with (at_builtin; refine wpList_append_run rfl _ _ 30 3 rfl _ _ rfl rfl _ _ (HR.out _) ?_)
  go_ret
  refine ⟨_, rfl, ?_, HB.out⟩
  exact ⟨rfl, .inr ⟨w.heap.size, c, _, rfl, Nat.le_refl _, HG.out, by omega, by unfold maxLen; omega, by simp [size_zeroCells]; omega, rfl⟩⟩

set_option maxRecDepth 100000 in
set_option maxHeartbeats 2000000 in
/-- Concat of two lists, three in all. -/
theorem concat_r (g : Nat) (a1 : Option Addr) (n1 c1 : Nat) (l1 : List Int) (a2 : Option Addr) (n2 c2 : Nat) (l2 : List Int) (w : World) (h0 : w.cell? ⟨g, 0, none⟩ = some (.slice a1 n1 c1)) (h1 : w.cell? ⟨g, 1, none⟩ = some (.slice a2 n2 c2))
    (hl1 : InIn w a1 n1 l1) (hl2 : InIn w a2 n2 l2) (hn1 : a1 = none → n1 = 0) (hn2 : a2 = none → n2 = 0) (h3 : n1 + n2 = 3) :
    Calls Tryz.prog 14 #[.slice (some ⟨g, 0, none⟩) 2 2] w fun e w' => ∃ a c, e = .returned (.slice a 3 c) ∧ InIn w' a 3 (l1 ++ l2) ∧ 3 ≤ c ∧ c ≤ 9223372036854775807 ∧ a ≠ none ∧ (∀ x, a = some x → w.heap.size ≤ x.block) ∧ Below w.heap.size w w' := by
  obtain ⟨i0, hi, hz0, hz1, hz2⟩ := info_of Tryz.infoInt
  have HL : Hid (InIn w a1 n1 l1 ∧ InIn w a2 n2 l2 ∧ (a1 = none → n1 = 0) ∧ (a2 = none → n2 = 0)) := ⟨hl1, hl2, hn1, hn2⟩
  have hg : g < w.heap.size := cell_block h0
  have q1 : (n1 : Int) + (n2 : Int) = 3 := by omega
  have q2 : ¬ (n1 : Int) < 0 := by omega
  have q3 : ¬ (n1 : Int) + (n2 : Int) < 0 := by omega
  have HC : Hid (w.cell? ⟨g, 0, none⟩ = some (.slice a1 n1 c1) ∧ w.cell? ⟨g, 1, none⟩ = some (.slice a2 n2 c2)) := ⟨h0, h1⟩
  have hb1 : (n1 : Int) ≤ 3 := by omega
  have hb2 : (n2 : Int) ≤ 3 := by omega
  clear hl1 hl2 hn1 hn2
  go_enter Tryz.func14, Tryz.ntmps14
  go_wp2
  refine wp_loop_rounds 3 ?_
  rw [rounds_succ]
  go_wp2
  rw [rounds_succ]
  go_wp2
  rw [rounds_succ]
  go_wp2_with fail
  refine (grow3_r _).mono ?_
  rintro e w2 ⟨v, rfl, hv, hb⟩
  have HB2 : Hid (Below w.heap.size w w2) := hb
  have HV : Hid (w2.ownsRow w.heap.size 3 1 v 0 []) := hv
  have x0 := cell_grown HC.out.1 hb
  have x1 := cell_grown HC.out.2 hb
  have z2 : g < w2.heap.size := by have := hb.size; omega
  have HS1 : Hid (Src Tryz.prog 1 30 (.slice a1 n1 c1) n1 (l1.map cellI) w2) := src_ints (HL.out.1.below (Nat.le_refl _) hb) HL.out.2.2.1
  clear hv hb h0 h1
  go_wp2
  refine wp_loop_rounds 3 ?_
  rw [rounds_succ]
  go_wp2_with (at_builtin; refine wpList_own_append _ rfl _ _ 30 30 rfl w.heap.size 3 i0 _ 8 Tryz.underlying30 hi hz0 hz1 hz2 rfl _ _ _ rfl HV.out _ n1 _ rfl HS1.out ?c3 ?c4 ?c5 ?_)
  case c3 => unfold maxLen; omega
  case c4 => omega
  case c5 => exact HB2.out.size
  intro v3 w3 ha
  have hgr := ha.grown
  have HB3 : Hid (Below w.heap.size w w3) := HB2.out.trans ⟨hgr.os, hgr.tape, hgr.output, hgr.size, fun k hk => hgr.block k (by have := HB2.out.size; omega) (fun e => by have := (World.ownsRow.lt HV.out k e.symm).1; omega)⟩
  have HV3 : Hid (w3.ownsRow w.heap.size 3 1 v3 n1 (l1.map cellI)) := (show w3.ownsRow w.heap.size 3 1 v3 n1 (l1.map cellI) by simpa using ha.row)
  clear ha hgr x0 x1
  have x0 := cell_grown HC.out.1 HB3.out
  have x1 := cell_grown HC.out.2 HB3.out
  have z3 : g < w3.heap.size := by have := HB3.out.size; omega
  have HS2 : Hid (Src Tryz.prog 1 30 (.slice a2 n2 c2) n2 (l2.map cellI) w3) := src_ints (HL.out.2.1.below (Nat.le_refl _) HB3.out) HL.out.2.2.2
  go_wp2
  rw [rounds_succ]
  go_wp2_with (at_builtin; refine wpList_own_append _ rfl _ _ 30 30 rfl w.heap.size 3 i0 _ 8 Tryz.underlying30 hi hz0 hz1 hz2 rfl _ _ _ rfl HV3.out _ n2 _ rfl HS2.out ?d3 ?d4 ?d5 ?_)
  case d3 => unfold maxLen; omega
  case d4 => omega
  case d5 => exact HB3.out.size
  intro v4 w4 ha
  have hgr := ha.grown
  have HB4 : Hid (Below w.heap.size w w4) := HB3.out.trans ⟨hgr.os, hgr.tape, hgr.output, hgr.size, fun k hk => hgr.block k (by have := HB3.out.size; omega) (fun e => by have := (World.ownsRow.lt HV3.out k e.symm).1; omega)⟩
  obtain ⟨a4, c4, hv4⟩ := ha.shape
  subst hv4
  have HV4 : Hid (w4.ownsRow w.heap.size 3 1 (.slice a4 3 c4) 3 ((l1 ++ l2).map cellI)) := (show w4.ownsRow w.heap.size 3 1 (.slice a4 3 c4) 3 ((l1 ++ l2).map cellI) by simpa using ha.row)
  clear ha hgr
  go_wp2
  rw [rounds_succ]
  go_wp2
  go_ret
  have hk := own_caps HV4.out
  refine ⟨a4, c4, rfl, in_of_own HV4.out (fun x hx => ?_) (by omega), hk.1, hk.2, fun e => ?_, own_new HV4.out, HB4.out⟩
  · rcases List.mem_append.1 hx with h | h
    · exact ints_ok HL.out.1 x h
    · exact ints_ok HL.out.2.1 x h
  · subst e
    rcases HV4.out.2 with ⟨_, e⟩ | ⟨g, cap, cur, hv, _⟩
    · cases e
    · cases hv
end Go.Proofs.YtkkkldglceiiiaaGreat
