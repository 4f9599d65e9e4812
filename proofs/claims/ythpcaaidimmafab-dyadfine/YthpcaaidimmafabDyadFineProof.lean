/- Proved: for every schema, value and number of levels, DyadFine answers true (with more levels a value's cell lies within its cell with fewer ones; of any attribute of a schema).
  The frame is the guide's own shell (proof-skeleton.mjs) at this function; the walk and all ahead of it are mine. -/
import Derived.Test.YthpcaaidimmafabRows
import Derived.Test.YthpcaaidimmafabDyCov2
import Derived.Test.YthpcaaidimmafabDyFine
import Derived.Test.YthpcaaidimmafabValOne
import Derived.Test.YthpcaaidimmafabValAttrs
import Derived.Test.YthpcaaidimmafabValCheck
import Derived.OneCell
import Derived.Deep.RegionWith
import Derived.WalkKit
import Derived.WalkLawsBesides
import Derived.ProofKit
import Derived.OpenShut
import Derived.ShutString
import Derived.ChangeOld
import Derived.Below
namespace Go.Proofs.Ythpcaaidimmafab.dyadFine
open Go.ChangeShapes Go.WideShapes Go.ChangeAt Go.RowKit
open Go.ChangeMaps (open_string shut_string)
set_option linter.unusedVariables false

theorem own : ownKnob Try.prog.godebug = none := by kernel_rfl
theorem laidOut : laidOutB Try.prog = true := by kernel_rfl


theorem sz_cutA (t : List At) : ∀ i, i < ((t.take 6).map cutA).length → (((t.take 6).map cutA).getD i at0).name.size ≤ maxLen := fun i hi => by
  have hi' : i < 6 ∧ i < t.length := by simp at hi; omega
  have e : ((t.take 6).map cutA).getD i at0 = cutA t[i] := by simp [hi'.1, hi'.2]
  rw [e]
  have := cut_size t[i].name 20
  show (cut t[i].name 20).size ≤ maxLen
  unfold maxLen; omega
/-! ### STEP 1: the walk -/
set_option maxRecDepth 100000 in
set_option maxHeartbeats 2000000 in
theorem walk (a0 : Option Addr) (len0 cap0 : Nat) (t0 : List At) (a1 : Vl) (a2 : Int) (w : World) (w0 : InRow 4 At.cells At.ok at0 w a0 len0 t0) (w1 : a1.ok) (w2 : (Lit.int .i64 a2).wf = true) :
    Calls Try.prog 4 #[.slice a0 len0 cap0, .agg #[.int .i64 a1.num, .string a1.str], .int .i64 a2] w fun e w' => e = .returned (.bool true) ∧ Below w.heap.size w w' := by
  obtain ⟨L, hL⟩ : ∃ L, L = (t0.take 6).map cutA := ⟨_, rfl⟩
  have lL : L.length ≤ 6 := by rw [hL]; simp; omega
  have SL : Hid (∀ i, i < L.length → (L.getD i at0).name.size ≤ maxLen) := by rw [hL]; exact sz_cutA t0
  have hc1 := attrs_any a0 len0 cap0 t0 (w.alloc (.cells #[.int .i64 a1.num, .string a1.str] 33)) (w0.below (Nat.le_refl _) (below1 _ _))
  rw [← hL] at hc1
  have hstr : a1.str.size ≤ maxLen := w1.2
  clear hL w0 w1 w2
  go_enter Try.func4, Try.ntmps4
  go_wp2_with fail
  refine hc1.mono ?_
  rintro e W1 ⟨v1, v2, rfl, R1⟩
  clear hc1
  have bb := R1.bel
  have B1 : Hid (Below w.heap.size w W1) := (below1 _ _).trans (bb.mono (by simp))
  have y0 : W1.cell? ⟨w.heap.size, 0, none⟩ = some (.int .i64 a1.num) := (bb.cell (p := ⟨w.heap.size, 0, none⟩) (by simp)).trans (by simp)
  have y1 : W1.cell? ⟨w.heap.size, 1, none⟩ = some (.string a1.str) := (bb.cell (p := ⟨w.heap.size, 1, none⟩) (by simp)).trans (by simp)
  have yf : ∀ o, W1.frozen? ⟨w.heap.size, o, none⟩ = false := fun o => (bb.frozen (p := ⟨w.heap.size, o, none⟩) (by simp)).trans (by simp)
  have yl : w.heap.size < W1.heap.size := by have := R1.le; simp at this; omega
  have O1 : Hid (W1.ownsRow (w.heap.size + 1) 42 4 v1 L.length (L.flatMap At.cells)) := (by simpa using R1.r1 : W1.ownsRow (w.heap.size + 1) 42 4 v1 L.length (L.flatMap At.cells))
  obtain ⟨av, cv, hv1⟩ := own_shape R1.r1
  subst hv1
  clear R1 bb
  go_wp2_with fail
  refine (check_any _ L _ (AtIn.ofOwn O1.out) (by omega) SL.out).mono ?_
  rintro e W4 ⟨hE, b4⟩
  have O4 : Hid (W4.ownsRow (w.heap.size + 1) 42 4 (.slice av L.length cv) L.length (L.flatMap At.cells)) := own_carry O1.out b4
  have B4 : Hid (Below w.heap.size w W4) := B1.out.trans (b4.mono B1.out.size)
  have d0 := (b4.cell (p := ⟨w.heap.size, 0, none⟩) yl).trans y0
  have d1 := (b4.cell (p := ⟨w.heap.size, 1, none⟩) yl).trans y1
  have df : ∀ o, W4.frozen? ⟨w.heap.size, o, none⟩ = false := fun o => (b4.frozen (p := ⟨w.heap.size, o, none⟩) yl).trans (yf o)
  have dl : w.heap.size < W4.heap.size := Nat.lt_of_lt_of_le yl b4.size
  clear b4 y0 y1 yf yl O1 B1
  rcases hE with ⟨rfl, hC⟩ | ⟨b9, n9, rfl, hC, _⟩
  · by_cases g0 : a2 < 0
    · go_wp2_with fail
      refine (awake7_any _).mono ?_
      rintro e W5 ⟨rfl, b5⟩
      have B5 : Hid (Below w.heap.size w W5) := B4.out.trans (b5.mono B4.out.size)
      clear b5
      go_wp2
      go_ret
      exact ⟨rfl, B5.out⟩
    · by_cases g1 : 7 < a2
      · go_wp2_with fail
        refine (awake7_any _).mono ?_
        rintro e W5 ⟨rfl, b5⟩
        have B5 : Hid (Below w.heap.size w W5) := B4.out.trans (b5.mono B4.out.size)
        clear b5
        go_wp2
        go_ret
        exact ⟨rfl, B5.out⟩
      · obtain ⟨n, rfl⟩ : ∃ n : Nat, a2 = n := ⟨a2.toNat, by omega⟩
        have hn : n ≤ 7 := by omega
        go_wp2_with fail
        refine (cut_any a1.str 50 _ hstr).mono ?_
        rintro e w' ⟨rfl, hw'⟩
        subst w'
        have hcs := cut_size a1.str 50
        obtain ⟨W5, hW5⟩ : ∃ W5, W5 = W4.setCell ⟨w.heap.size, 1, none⟩ (.string (cut a1.str 50)) := ⟨_, rfl⟩
        have O5 : Hid (W5.ownsRow (w.heap.size + 1) 42 4 (.slice av L.length cv) L.length (L.flatMap At.cells)) := by
          show W5.ownsRow _ _ _ _ _ _
          rw [hW5]
          exact ownsRow_setCell_other O4.out (fun e => by have h9 := (O4.out.lt _ e).1; dsimp only at h9; omega) _
        have B5 : Hid (Below w.heap.size w W5) := by
          show Below _ _ _
          rw [hW5]; exact B4.out.setCell (Nat.le_refl _) _
        have q0 : W5.cell? ⟨w.heap.size, 0, none⟩ = some (.int .i64 a1.num) := by rw [hW5]; exact (World.cell?_setCell_other _ _ _ _ (by simp)).trans d0
        have q1 : W5.cell? ⟨w.heap.size, 1, none⟩ = some (.string (cut a1.str 50)) := by rw [hW5]; exact World.cell?_setCell_same _ _ _ d1
        have ql : w.heap.size < W5.heap.size := by rw [hW5]; simpa using dl
        have A5 : Hid (AtIn W5 (.slice av L.length cv) L) := AtIn.ofOwn O5.out
        generalize cut a1.str 50 = st at *
        clear O4 B4 O5
        go_wp2_with fail
        rw [← hW5]
        clear hW5 d0 d1 df dl
        go_loopg [36] L.length (fun kx s36 wr => ∃ k : Nat, s36 = .int .i64 k ∧ k ≤ L.length ∧ kx = L.length - k ∧ Hid (Below W5.heap.size W5 wr))
        case atStart => exact ⟨0, rfl, Nat.zero_le _, rfl, (Below.refl _ _ : Below W5.heap.size W5 W5)⟩
        case round =>
          obtain ⟨k, rfl, hk, rfl, HB⟩ := hrel
          by_cases hlt : k < L.length
          · obtain ⟨g, rfl, hg, hcc, c0, c1, c2, c3⟩ := (A5.out.below HB.out).row k hlt
            have r0 := (HB.out.cell (p := ⟨w.heap.size, 0, none⟩) ql).trans q0
            have r1 := (HB.out.cell (p := ⟨w.heap.size, 1, none⟩) ql).trans q1
            have rl : w.heap.size < wr.heap.size := Nat.lt_of_lt_of_le ql HB.out.size
            generalize L.getD k at0 = x at c0 c1 c2 c3
            obtain ⟨W6, hW6⟩ : ∃ W6, W6 = wr.alloc (.cells #[.string x.name, .int .i64 x.kind, .int .i64 x.mn, .int .i64 x.mx] 42) := ⟨_, rfl⟩
            have b6 : Below wr.heap.size wr W6 := by rw [hW6]; exact below1 _ _
            have s6 : W6.heap.size = wr.heap.size + 1 := by rw [hW6]; simp
            have f0 : W6.cell? ⟨wr.heap.size, 0, none⟩ = some (.string x.name) := by rw [hW6]; simp
            have f1 : W6.cell? ⟨wr.heap.size, 1, none⟩ = some (.int .i64 x.kind) := by rw [hW6]; simp
            have f2 : W6.cell? ⟨wr.heap.size, 2, none⟩ = some (.int .i64 x.mn) := by rw [hW6]; simp
            have f3 : W6.cell? ⟨wr.heap.size, 3, none⟩ = some (.int .i64 x.mx) := by rw [hW6]; simp
            obtain ⟨ι, F, _, hF0, hFb, hFc⟩ := grown_fam W6
            have F0 : ∀ i, (F i).cell? ⟨wr.heap.size, 0, none⟩ = some (.string x.name) := fun i => cell_grown f0 (hFb i)
            have F1 : ∀ i, (F i).cell? ⟨wr.heap.size, 1, none⟩ = some (.int .i64 x.kind) := fun i => cell_grown f1 (hFb i)
            have F2 : ∀ i, (F i).cell? ⟨wr.heap.size, 2, none⟩ = some (.int .i64 x.mn) := fun i => cell_grown f2 (hFb i)
            have F3 : ∀ i, (F i).cell? ⟨wr.heap.size, 3, none⟩ = some (.int .i64 x.mx) := fun i => cell_grown f3 (hFb i)
            have G0 : ∀ i, (F i).cell? ⟨w.heap.size, 0, none⟩ = some (.int .i64 a1.num) := fun i => cell_grown (cell_grown r0 b6) (hFb i)
            have G1 : ∀ i, (F i).cell? ⟨w.heap.size, 1, none⟩ = some (.string st) := fun i => cell_grown (cell_grown r1 b6) (hFb i)
            have HF : Hid ((∃ i, { W6 with drawn := W6.drawn + 1 } = F i) ∧ (∀ i, Below W6.heap.size W6 (F i)) ∧ (∀ i W, Below W6.heap.size (F i) W → ∃ j, W = F j)) := ⟨hF0, hFb, hFc⟩
            have HB6 : Hid (Below W5.heap.size W5 W6) := HB.out.trans (b6.mono HB.out.size)
            have HFN := cellOf_fine x ⟨a1.num, st⟩ n hn
            have hlo1 := cellOf_lo x ⟨a1.num, st⟩ n (by omega)
            have hhi2 := cellOf_hi x ⟨a1.num, st⟩ (n + 1) (by omega)
            have hp2 := pow_le_256 (show n + 1 ≤ 8 by omega)
            have HC1 : Hid _ := fun W => cell_any x ⟨a1.num, st⟩ n W (by unfold maxLen; simp; omega)
            have HC2 : Hid _ := fun W => cell_any x ⟨a1.num, st⟩ ((n : Int) + 1) W (by unfold maxLen; simp; omega)
            rw [show ((n + 1 : Nat) : Int) = (n : Int) + 1 by omega] at hhi2
            generalize 2 ^ (n + 1) = P at hhi2 hp2
            generalize cellOf x ⟨a1.num, st⟩ n = x1 at *
            generalize cellOf x ⟨a1.num, st⟩ ((n : Int) + 1) = x2 at *
            have HN : Hid ((x1 < 0 ↔ x2 < 0) ∧ (0 ≤ x1 → x2 / 2 = x1)) := HFN
            clear hF0 hFb hFc f0 f1 f2 f3 r0 r1 b6 HFN
            go_wp2_with fail
            rw [← hW6]
            clear hW6
            refine wp_region_fam F HF.out.1 (by kernel_rfl) (by kernel_rfl) ?_
            repeat (go_big_quiet_step (first
              | (go_at_call_of 11 (Value.int .i64 (n : Int)); refine Calls.mono (HC1.out _) ?_; rintro e' w' ⟨hs, hb⟩; exact ⟨hs, HF.out.2.2 _ _ (hb.mono (HF.out.2.1 _).size)⟩)
              | (go_at_call 11; refine Calls.mono (HC2.out _) ?_; rintro e' w' ⟨hs, hb⟩; exact ⟨hs, HF.out.2.2 _ _ (hb.mono (HF.out.2.1 _).size)⟩)))
            refine wpQuiet_nil ?_
            rintro _ ⟨i, rfl⟩
            have HB7 : Hid (Below W5.heap.size W5 (F i)) := HB6.out.trans ((HF.out.2.1 i).mono HB6.out.size)
            generalize F i = W7 at HB7
            clear F0 F1 F2 F3 G0 G1 HF HB6 c0 c1 c2 c3
            by_cases hx1 : x1 < 0
            · have hx2 : x2 < 0 := HN.out.1.1 hx1
              go_wp2
              go_roundg (L.length - (k + 1))
              case measure => omega
              case rel => exact ⟨k + 1, by go_num, by omega, rfl, HB7⟩
            · have hx2 : ¬ x2 < 0 := fun h => hx1 (HN.out.1.2 h)
              have hx3 : x2 / 2 = x1 := HN.out.2 (by omega)
              go_wp2
              go_roundg (L.length - (k + 1))
              case measure => omega
              case rel => exact ⟨k + 1, by go_num, by omega, rfl, HB7⟩
          · have B9 : Hid (Below w.heap.size w wr) := B5.out.trans (HB.out.mono B5.out.size)
            go_wp2_with fail
            refine (awake7_any _).mono ?_
            rintro e W8 ⟨rfl, b8⟩
            have B8 : Hid (Below w.heap.size w W8) := B9.out.trans (b8.mono B9.out.size)
            clear b8
            go_wp2
            go_ret
            exact ⟨rfl, B8.out⟩
  · go_wp2_with fail
    refine (awake7_any _).mono ?_
    rintro e W5 ⟨rfl, b5⟩
    have B5 : Hid (Below w.heap.size w W5) := B4.out.trans (b5.mono B4.out.size)
    clear b5
    go_wp2
    go_ret
    exact ⟨rfl, B5.out⟩

/-! ### The row's step -/
set_option maxRecDepth 100000 in
theorem lifted (os : Os) (started : os.Started) (H : Type) (enc : TypeId × Value → H) :
    ReturnsInHanded {} Try.checked os 4 .any (Rows.dyadFineSpec.pre6 enc Try.prog Try.f4 Rows.dyadFineRow.domain false) (Rows.dyadFineSpec.post enc Try.prog Try.f4 false true false false) := by
  refine returnsInHanded_of_change (C := Try.checked) own started (by kernel_rfl) Try.func4
    (ChangeSpec.witness6 (enc := enc) (C := Try.checked) false ⟨#[], #[.slice none 0 0, .agg #[.int .i64 0, .string ByteArray.empty], .int .i64 0], []⟩ 8 (by kernel_rfl) (by kernel_rfl) (by kernel_rfl) (by kernel_rfl)) ?_
  intro W base args ds gs before hval0 hW hcnd _
  have hval : ∀ (j : Nat) t v, Try.f4.params[j]? = some t → args[j]? = some v → Value.okWide Try.prog W .any base t v := hval0
  have hW' := hW
  obtain ⟨p, q, hA0, hV, rfl, hfz, hnd⟩ := hW
  have hA : DataW.TrodAll enc Try.prog W 0 (fun _ => true) true Try.f4.params.toList args.toList ds p := hA0
  rw [Try.params4] at hA hval
  obtain ⟨v0, vs0, d0, ds0, p0, q0, hargs, rfl, rfl, h0, r0⟩ := trodAll_cons hA
  obtain ⟨v1, vs1, d1, ds1, p1, q1, rfl, rfl, rfl, h1, r1⟩ := trodAll_cons r0
  obtain ⟨v2, vs2, d2, ds2, p2, q2, rfl, rfl, rfl, h2, r2⟩ := trodAll_cons r1
  obtain ⟨rfl, rfl, rfl⟩ := trodAll_nil r2
  obtain rfl : args = #[v0, v1, v2] := by cases args; simp_all
  obtain ⟨rfl, rfl⟩ := trodVars_none hV
  obtain ⟨a0, len0, cap0, rfl⟩ := okWide_slice Try.underlying31 (hval 0 31 v0 rfl rfl)
  have k0 := h0
  have lt0 : ∀ x ∈ p0, x.block < W.heap.size := by obtain ⟨m, hm⟩ := k0; exact DataW.trod_lt m _ _ _ hm
  obtain ⟨t0, w0⟩ : ∃ ts, InRow 4 At.cells At.ok at0 W a0 len0 ts := by
    obtain ⟨fuel, hf⟩ := h0
    exact inrow_of 4 At.cells At.ok at0 31 42 Try.underlying31 cellsAt (by omega) At.cells_len (fun n cs x => at_of n cs x) hf
  obtain ⟨cs1, rfl, hcs1⟩ := okWide_struct Try.underlying33 (hval 1 33 v1 rfl rfl)
  have k1 := h1
  have lt1 : ∀ x ∈ p1, x.block < W.heap.size := by obtain ⟨m, hm⟩ := k1; exact DataW.trod_lt m _ _ _ hm
  obtain ⟨fuel1, hf1⟩ := h1
  obtain ⟨a1, rfl, w1⟩ := vl_one hcs1 hf1
  obtain ⟨a2, rfl, rfl, rfl, w2⟩ := open_int Try.underlying3 (hval 2 3 v2 rfl rfl) h2
  clear hA0 hval0
  refine (walk a0 len0 cap0 t0 a1 a2 W w0 w1 w2).mono fun e W' ⟨he, bel⟩ => ?_
  subst he
  exact ⟨_, rfl, _, _, _, [], _, [], hW', trodAll_mk1 (shut_bool Try.underlying4 _), (trodAll_cons_mk (Below.trod laidOut (by kernel_rfl) (of_decide_eq_true (by kernel_rfl)) k0 bel lt0) (trodAll_cons_mk (Below.trod laidOut (by kernel_rfl) (of_decide_eq_true (by kernel_rfl)) k1 bel lt1) (trodAll_cons_mk (shut_int Try.underlying3 w2) trodAll_mk0))), rfl, bel.frame _, fun h => by cases h⟩

theorem over : Rows.dyadFineRow.holds Try.pinned (OpenSpec.ofChange Rows.dyadFineSpec) :=
  OpenClaim.holds_of_wide 4 Try.f4 rfl rfl rfl rfl rfl rfl rfl ⟨rfl, rfl, rfl, rfl, rfl⟩ rfl rfl rfl rfl rfl (by kernel_rfl) Try.func4 (by kernel_rfl)
    (of_decide_eq_true (by kernel_rfl)) (by unfold Func.isWrapper; first | (rw [if_pos (by decide +kernel)]; kernel_rfl) | (rw [if_neg (by decide +kernel)]; exact ⟨rfl, rfl⟩))
    (fun os started H enc _ => lifted os started H enc)

end Go.Proofs.Ythpcaaidimmafab.dyadFine

namespace Go.Proofs.Ythpcaaidimmafab
/-- Proved: for every schema, value and number of levels, DyadFine answers true (with more levels a value's cell lies within its cell with fewer ones; of any attribute of a schema). -/
theorem dyadFine_holds : Rows.DyadFineSaid := dyadFine.over
#print axioms dyadFine_holds
end Go.Proofs.Ythpcaaidimmafab
