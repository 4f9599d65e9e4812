/- Proved: for every attribute, value, predicate and number of levels, DyadCells answers true (values and predicates have their cells).
  The frame is the guide's own shell (proof-skeleton.mjs) at this function; the walk and all ahead of it are mine. -/
import Derived.Test.YthpcaaidimmafaaRows
import Derived.Test.YthpcaaidimmafaaDyCov2
import Derived.Test.YthpcaaidimmafaaDyRef
import Derived.Test.YthpcaaidimmafaaValOne
import Derived.Test.YthpcaaidimmafaaCut
import Derived.OneCell
import Derived.Deep.RegionWith
import Derived.Deep.CutBlock
import Derived.Deep.DeepCutAuto
import Derived.WalkKit
import Derived.WalkLawsBesides
import Derived.ProofKit
import Derived.OpenShut
import Derived.ShutString
import Derived.ChangeOld
import Derived.Below
namespace Go.Proofs.Ythpcaaidimmafaa.dyadCells
open Go.ChangeShapes Go.WideShapes Go.ChangeAt Go.RowKit
open Go.ChangeMaps (open_string shut_string)
set_option linter.unusedVariables false

theorem own : ownKnob Try.prog.godebug = none := by kernel_rfl
theorem laidOut : laidOutB Try.prog = true := by kernel_rfl


/-- An attribute, a value, a predicate in boxes of the call's own. -/
structure By (w wx : World) (a : At) (v : Vl) (p : Pd) : Prop where
  a0 : wx.cell? ⟨w.heap.size, 0, none⟩ = some (.string a.name)
  a1 : wx.cell? ⟨w.heap.size, 1, none⟩ = some (.int .i64 a.kind)
  a2 : wx.cell? ⟨w.heap.size, 2, none⟩ = some (.int .i64 a.mn)
  a3 : wx.cell? ⟨w.heap.size, 3, none⟩ = some (.int .i64 a.mx)
  v0 : wx.cell? ⟨w.heap.size + 1, 0, none⟩ = some (.int .i64 v.num)
  v1 : wx.cell? ⟨w.heap.size + 1, 1, none⟩ = some (.string v.str)
  p0 : wx.cell? ⟨w.heap.size + 2, 0, none⟩ = some (.string p.name)
  p1 : wx.cell? ⟨w.heap.size + 2, 1, none⟩ = some (.int .i64 p.op)
  p2 : wx.cell? ⟨w.heap.size + 2, 2, none⟩ = some (.int .i64 p.lo)
  p3 : wx.cell? ⟨w.heap.size + 2, 3, none⟩ = some (.int .i64 p.hi)
  p4 : wx.cell? ⟨w.heap.size + 2, 4, none⟩ = some (.string p.str)
  bel : Below w.heap.size w wx
  lt : w.heap.size + 2 < wx.heap.size
theorem By.below {w wx wy : World} {a : At} {v : Vl} {p : Pd} (h : By w wx a v p) (b : Below wx.heap.size wx wy) : By w wy a v p :=
  ⟨cell_grown h.a0 b, cell_grown h.a1 b, cell_grown h.a2 b, cell_grown h.a3 b, cell_grown h.v0 b, cell_grown h.v1 b, cell_grown h.p0 b, cell_grown h.p1 b, cell_grown h.p2 b, cell_grown h.p3 b, cell_grown h.p4 b, h.bel.trans (b.mono h.bel.size), Nat.lt_of_lt_of_le h.lt b.size⟩
theorem By.set1 {w wx : World} {a : At} {v : Vl} {p : Pd} (h : By w wx a v p) (s : ByteArray) : By w (wx.setCell ⟨w.heap.size + 1, 1, none⟩ (.string s)) a ⟨v.num, s⟩ p :=
  ⟨(World.cell?_setCell_other _ _ _ _ (by simp)).trans h.a0, (World.cell?_setCell_other _ _ _ _ (by simp)).trans h.a1, (World.cell?_setCell_other _ _ _ _ (by simp)).trans h.a2, (World.cell?_setCell_other _ _ _ _ (by simp)).trans h.a3, (World.cell?_setCell_other _ _ _ _ (by simp)).trans h.v0, World.cell?_setCell_same _ _ _ h.v1,
   (World.cell?_setCell_other _ _ _ _ (by simp)).trans h.p0, (World.cell?_setCell_other _ _ _ _ (by simp)).trans h.p1, (World.cell?_setCell_other _ _ _ _ (by simp)).trans h.p2, (World.cell?_setCell_other _ _ _ _ (by simp)).trans h.p3, (World.cell?_setCell_other _ _ _ _ (by simp)).trans h.p4, h.bel.setCell (by simp) _, by simpa using h.lt⟩
theorem By.set2 {w wx : World} {a : At} {v : Vl} {p : Pd} (h : By w wx a v p) (s : ByteArray) : By w (wx.setCell ⟨w.heap.size + 2, 4, none⟩ (.string s)) a v ⟨p.name, p.op, p.lo, p.hi, s⟩ :=
  ⟨(World.cell?_setCell_other _ _ _ _ (by simp)).trans h.a0, (World.cell?_setCell_other _ _ _ _ (by simp)).trans h.a1, (World.cell?_setCell_other _ _ _ _ (by simp)).trans h.a2, (World.cell?_setCell_other _ _ _ _ (by simp)).trans h.a3, (World.cell?_setCell_other _ _ _ _ (by simp)).trans h.v0, (World.cell?_setCell_other _ _ _ _ (by simp)).trans h.v1,
   (World.cell?_setCell_other _ _ _ _ (by simp)).trans h.p0, (World.cell?_setCell_other _ _ _ _ (by simp)).trans h.p1, (World.cell?_setCell_other _ _ _ _ (by simp)).trans h.p2, (World.cell?_setCell_other _ _ _ _ (by simp)).trans h.p3, World.cell?_setCell_same _ _ _ h.p4, h.bel.setCell (by simp) _, by simpa using h.lt⟩
theorem alloc3 (w : World) (v1 v2 v3 : Array Value) (t1 t2 t3 : TypeId) : (((w.alloc (.cells v1 t1)).alloc (.cells v2 t2)).alloc (.cells v3 t3)).heap[w.heap.size]? = some (.cells v1 t1 (0, 0)) ∧ (((w.alloc (.cells v1 t1)).alloc (.cells v2 t2)).alloc (.cells v3 t3)).heap[w.heap.size + 1]? = some (.cells v2 t2 (0, 0)) ∧ (((w.alloc (.cells v1 t1)).alloc (.cells v2 t2)).alloc (.cells v3 t3)).heap[w.heap.size + 2]? = some (.cells v3 t3 (0, 0)) := by
  refine ⟨?_, ?_, ?_⟩
  · rw [Below.heap_alloc _ _ _ (by simp; omega), Below.heap_alloc _ _ _ (by simp)]; exact heap_alloc_new w _
  · rw [Below.heap_alloc _ _ _ (by simp)]; have := heap_alloc_new (w.alloc (.cells v1 t1)) (.cells v2 t2); simpa using this
  · have := heap_alloc_new ((w.alloc (.cells v1 t1)).alloc (.cells v2 t2)) (.cells v3 t3); simpa using this
/-! ### STEP 1: the walk -/
set_option maxRecDepth 100000 in
set_option maxHeartbeats 2000000 in
theorem walk (a0 : At) (a1 : Vl) (a2 : Pd) (a3 : Int) (w : World) (w0 : a0.ok) (w1 : a1.ok) (w2 : a2.ok) (w3 : (Lit.int .i64 a3).wf = true) :
    Calls Try.prog 4 #[.agg #[.string a0.name, .int .i64 a0.kind, .int .i64 a0.mn, .int .i64 a0.mx], .agg #[.int .i64 a1.num, .string a1.str], .agg #[.string a2.name, .int .i64 a2.op, .int .i64 a2.lo, .int .i64 a2.hi, .string a2.str], .int .i64 a3] w fun e w' => e = .returned (.bool true) ∧ Below w.heap.size w w' := by
  have hstr1 : a1.str.size ≤ maxLen := w1.2
  have hstr2 : a2.str.size ≤ maxLen := w2.2.2.2.2
  clear w0 w1 w2 w3
  go_enter Try.func4, Try.ntmps4
  go_upto_region 1 with fail
  obtain ⟨W4, hW4⟩ : ∃ W4, W4 = ((w.alloc (.cells #[.string a0.name, .int .i64 a0.kind, .int .i64 a0.mn, .int .i64 a0.mx] 42)).alloc (.cells #[.int .i64 a1.num, .string a1.str] 44)).alloc (.cells #[.string a2.name, .int .i64 a2.op, .int .i64 a2.lo, .int .i64 a2.hi, .string a2.str] 46) := ⟨_, rfl⟩
  rw [← hW4]
  obtain ⟨hA, hV, hP⟩ := alloc3 w #[.string a0.name, .int .i64 a0.kind, .int .i64 a0.mn, .int .i64 a0.mx] #[.int .i64 a1.num, .string a1.str] #[.string a2.name, .int .i64 a2.op, .int .i64 a2.lo, .int .i64 a2.hi, .string a2.str] 42 44 46
  rw [← hW4] at hA hV hP
  have X4 : Hid (By w W4 a0 a1 a2) := by
    show By _ _ _ _ _
    exact ⟨box_cell (j := 0) hA (by simp), box_cell (j := 1) hA (by simp), box_cell (j := 2) hA (by simp), box_cell (j := 3) hA (by simp), box_cell (j := 0) hV (by simp), box_cell (j := 1) hV (by simp), box_cell (j := 0) hP (by simp), box_cell (j := 1) hP (by simp), box_cell (j := 2) hP (by simp), box_cell (j := 3) hP (by simp), box_cell (j := 4) hP (by simp), by rw [hW4]; exact ((dbel2 w _ _).alloc (by simp; omega) _), by rw [hW4]; simp⟩
  have df : ∀ o, W4.frozen? ⟨w.heap.size + 1, o, none⟩ = false := fun o => by simp [World.frozen?, hV]
  have dg : ∀ o, W4.frozen? ⟨w.heap.size + 2, o, none⟩ = false := fun o => by simp [World.frozen?, hP]
  clear hA hV hP
  clear hW4
  go_cut [] (fun wx => By w wx a0 ⟨a1.num, cut a1.str 60⟩ ⟨a2.name, a2.op, a2.lo, a2.hi, cut a2.str 60⟩)
  case first =>
    have d1 := X4.out.v1
    have d3 := X4.out.p4
    have dl := X4.out.lt
    have dl' : w.heap.size + 1 < W4.heap.size := by omega
    go_region_with (go_at_call 21; refine (cut_any _ 60 _ (by first | exact hstr1 | exact hstr2)).mono ?_; rintro e w' ⟨rfl, rfl⟩)
    all_goals
      go_wp2_with fail
      go_meet
      first
        | exact ((X4.out.set1 _).set2 _).below ⟨rfl, rfl, rfl, Nat.le_refl _, fun _ _ => rfl⟩
        | exact ((X4.out.set2 _).set1 _).below ⟨rfl, rfl, rfl, Nat.le_refl _, fun _ _ => rfl⟩
  case rest =>
    rename World => W5
    have X5 : Hid _ := hcut
    have hs1 := cut_size a1.str 60
    have hs2 := cut_size a2.str 60
    generalize cut a1.str 60 = s1 at *
    generalize cut a2.str 60 = s2 at *
    have HR1 : Hid _ := fun W => range_any a0 ⟨a2.name, a2.op, a2.lo, a2.hi, s2⟩ a3 W (by simp; omega)
    have HR2 : Hid _ := fun W => rrange_any a0 ⟨a2.name, a2.op, a2.lo, a2.hi, s2⟩ a3 W (by simp; omega)
    have HC1 : Hid _ := fun W => cell_any a0 ⟨a1.num, s1⟩ a3 W (by unfold maxLen; simp; omega)
    have HC2 : Hid _ := fun W => rcell_any a0 ⟨a1.num, s1⟩ a3 W (by unfold maxLen; simp; omega)
    generalize cellOf a0 ⟨a1.num, s1⟩ a3 = r1 at *
    generalize (rangeOf a0 ⟨a2.name, a2.op, a2.lo, a2.hi, s2⟩ a3).1 = r2 at *
    generalize (rangeOf a0 ⟨a2.name, a2.op, a2.lo, a2.hi, s2⟩ a3).2 = r3 at *
    clear hcut X4 df dg
    obtain ⟨e0, e1, e2, e3, f0, f1, g0, g1, g2, g3, g4, bl, lt⟩ := X5.out
    have lt' : w.heap.size < W5.heap.size := by omega
    have lt2 : w.heap.size + 1 < W5.heap.size := by omega
    clear bl
    go_wp2_with fail
    refine Calls.mono (HR1.out _) ?_
    rintro e W6 ⟨rfl, b6⟩
    have X6 : Hid _ := X5.out.below b6
    clear e0 e1 e2 e3 f0 f1 g0 g1 g2 g3 g4 b6 lt lt' lt2
    obtain ⟨e0, e1, e2, e3, f0, f1, g0, g1, g2, g3, g4, bl, lt⟩ := X6.out
    have lt' : w.heap.size < W6.heap.size := by omega
    have lt2 : w.heap.size + 1 < W6.heap.size := by omega
    clear bl X5
    go_wp2_with fail
    refine Calls.mono (HR2.out _) ?_
    rintro e W7 ⟨rfl, b7⟩
    have X7 : Hid _ := X6.out.below b7
    clear e0 e1 e2 e3 f0 f1 g0 g1 g2 g3 g4 b7 lt lt' lt2 X6
    obtain ⟨ι, F, _, hF0, hFb, hFc⟩ := grown_fam W7
    have F0 : ∀ i, (F i).cell? ⟨w.heap.size, 0, none⟩ = some (.string a0.name) := fun i => cell_grown X7.out.a0 (hFb i)
    have F1 : ∀ i, (F i).cell? ⟨w.heap.size, 1, none⟩ = some (.int .i64 a0.kind) := fun i => cell_grown X7.out.a1 (hFb i)
    have F2 : ∀ i, (F i).cell? ⟨w.heap.size, 2, none⟩ = some (.int .i64 a0.mn) := fun i => cell_grown X7.out.a2 (hFb i)
    have F3 : ∀ i, (F i).cell? ⟨w.heap.size, 3, none⟩ = some (.int .i64 a0.mx) := fun i => cell_grown X7.out.a3 (hFb i)
    have G0 : ∀ i, (F i).cell? ⟨w.heap.size + 1, 0, none⟩ = some (.int .i64 a1.num) := fun i => cell_grown X7.out.v0 (hFb i)
    have G1 : ∀ i, (F i).cell? ⟨w.heap.size + 1, 1, none⟩ = some (.string s1) := fun i => cell_grown X7.out.v1 (hFb i)
    have HF : Hid ((∃ i, { W7 with drawn := W7.drawn + 1 } = F i) ∧ (∀ i, Below W7.heap.size W7 (F i)) ∧ (∀ i W, Below W7.heap.size (F i) W → ∃ j, W = F j)) := ⟨hF0, hFb, hFc⟩
    clear hF0 hFb hFc
    go_wp2_with fail
    refine wp_region_fam F HF.out.1 (by kernel_rfl) (by kernel_rfl) ?_
    repeat (go_big_quiet_step (first
      | (go_at_call 11; refine (awake7_any _).mono ?_; rintro e' w' ⟨hs, hb⟩; exact ⟨hs, HF.out.2.2 _ _ (hb.mono (HF.out.2.1 _).size)⟩)
      | (go_at_call 24; refine Calls.mono (HC1.out _) ?_; rintro e' w' ⟨hs, hb⟩; exact ⟨hs, HF.out.2.2 _ _ (hb.mono (HF.out.2.1 _).size)⟩)
      | (go_at_call 25; refine Calls.mono (HC2.out _) ?_; rintro e' w' ⟨hs, hb⟩; exact ⟨hs, HF.out.2.2 _ _ (hb.mono (HF.out.2.1 _).size)⟩)))
    refine wpQuiet_nil ?_
    rintro _ ⟨i, rfl⟩
    have BF := (X7.out.below (HF.out.2.1 i)).bel
    go_wp2
    go_ret
    exact ⟨by simp, BF⟩

/-! ### The row's step -/
set_option maxRecDepth 100000 in
theorem lifted (os : Os) (started : os.Started) (H : Type) (enc : TypeId × Value → H) :
    ReturnsInHanded {} Try.checked os 4 .any (Rows.dyadCellsSpec.pre6 enc Try.prog Try.f4 Rows.dyadCellsRow.domain false) (Rows.dyadCellsSpec.post enc Try.prog Try.f4 false true false false) := by
  refine returnsInHanded_of_change (C := Try.checked) own started (by kernel_rfl) Try.func4
    (ChangeSpec.witness6 (enc := enc) (C := Try.checked) false ⟨#[], #[.agg #[.string ByteArray.empty, .int .i64 0, .int .i64 0, .int .i64 0], .agg #[.int .i64 0, .string ByteArray.empty], .agg #[.string ByteArray.empty, .int .i64 0, .int .i64 0, .int .i64 0, .string ByteArray.empty], .int .i64 0], []⟩ 8 (by kernel_rfl) (by kernel_rfl) (by kernel_rfl) (by kernel_rfl)) ?_
  intro W base args ds gs before hval0 hW hcnd _
  have hval : ∀ (j : Nat) t v, Try.f4.params[j]? = some t → args[j]? = some v → Value.okWide Try.prog W .any base t v := hval0
  have hW' := hW
  obtain ⟨p, q, hA0, hV, rfl, hfz, hnd⟩ := hW
  have hA : DataW.TrodAll enc Try.prog W 0 (fun _ => true) true Try.f4.params.toList args.toList ds p := hA0
  rw [Try.params4] at hA hval
  obtain ⟨v0, vs0, d0, ds0, p0, q0, hargs, rfl, rfl, h0, r0⟩ := trodAll_cons hA
  obtain ⟨v1, vs1, d1, ds1, p1, q1, rfl, rfl, rfl, h1, r1⟩ := trodAll_cons r0
  obtain ⟨v2, vs2, d2, ds2, p2, q2, rfl, rfl, rfl, h2, r2⟩ := trodAll_cons r1
  obtain ⟨v3, vs3, d3, ds3, p3, q3, rfl, rfl, rfl, h3, r3⟩ := trodAll_cons r2
  obtain ⟨rfl, rfl, rfl⟩ := trodAll_nil r3
  obtain rfl : args = #[v0, v1, v2, v3] := by cases args; simp_all
  obtain ⟨rfl, rfl⟩ := trodVars_none hV
  obtain ⟨cs0, rfl, hcs0⟩ := okWide_struct Try.underlying42 (hval 0 42 v0 rfl rfl)
  have k0 := h0
  have lt0 : ∀ x ∈ p0, x.block < W.heap.size := by obtain ⟨m, hm⟩ := k0; exact DataW.trod_lt m _ _ _ hm
  obtain ⟨fuel0, hf0⟩ := h0
  obtain ⟨a0, rfl, w0⟩ := at_one hcs0 hf0
  obtain ⟨cs1, rfl, hcs1⟩ := okWide_struct Try.underlying44 (hval 1 44 v1 rfl rfl)
  have k1 := h1
  have lt1 : ∀ x ∈ p1, x.block < W.heap.size := by obtain ⟨m, hm⟩ := k1; exact DataW.trod_lt m _ _ _ hm
  obtain ⟨fuel1, hf1⟩ := h1
  obtain ⟨a1, rfl, w1⟩ := vl_one hcs1 hf1
  obtain ⟨cs2, rfl, hcs2⟩ := okWide_struct Try.underlying46 (hval 2 46 v2 rfl rfl)
  have k2 := h2
  have lt2 : ∀ x ∈ p2, x.block < W.heap.size := by obtain ⟨m, hm⟩ := k2; exact DataW.trod_lt m _ _ _ hm
  obtain ⟨fuel2, hf2⟩ := h2
  obtain ⟨a2, rfl, w2⟩ := pd_one hcs2 hf2
  obtain ⟨a3, rfl, rfl, rfl, w3⟩ := open_int Try.underlying3 (hval 3 3 v3 rfl rfl) h3
  clear hA0 hval0
  refine (walk a0 a1 a2 a3 W w0 w1 w2 w3).mono fun e W' ⟨he, bel⟩ => ?_
  subst he
  exact ⟨_, rfl, _, _, _, [], _, [], hW', trodAll_mk1 (shut_bool Try.underlying4 _), (trodAll_cons_mk (Below.trod laidOut (by kernel_rfl) (of_decide_eq_true (by kernel_rfl)) k0 bel lt0) (trodAll_cons_mk (Below.trod laidOut (by kernel_rfl) (of_decide_eq_true (by kernel_rfl)) k1 bel lt1) (trodAll_cons_mk (Below.trod laidOut (by kernel_rfl) (of_decide_eq_true (by kernel_rfl)) k2 bel lt2) (trodAll_cons_mk (shut_int Try.underlying3 w3) trodAll_mk0)))), rfl, bel.frame _, fun h => by cases h⟩

theorem over : Rows.dyadCellsRow.holds Try.pinned (OpenSpec.ofChange Rows.dyadCellsSpec) :=
  OpenClaim.holds_of_wide 4 Try.f4 rfl rfl rfl rfl rfl rfl rfl ⟨rfl, rfl, rfl, rfl, rfl⟩ rfl rfl rfl rfl rfl (by kernel_rfl) Try.func4 (by kernel_rfl)
    (of_decide_eq_true (by kernel_rfl)) (by unfold Func.isWrapper; first | (rw [if_pos (by decide +kernel)]; kernel_rfl) | (rw [if_neg (by decide +kernel)]; exact ⟨rfl, rfl⟩))
    (fun os started H enc _ => lifted os started H enc)

end Go.Proofs.Ythpcaaidimmafaa.dyadCells

namespace Go.Proofs.Ythpcaaidimmafaa
/-- Proved: for every attribute, value, predicate and number of levels, DyadCells answers true (values and predicates have their cells). -/
theorem dyadCells_holds : Rows.DyadCellsSaid := dyadCells.over
#print axioms dyadCells_holds
end Go.Proofs.Ythpcaaidimmafaa
