/- Proved: for every schema, every two values and every number of levels, DyadRises answers true (a greater value has no lesser cell, and all cells are cells; of any attribute of a schema).
  The frame is the guide's own shell (proof-skeleton.mjs) at this function; the walk and all ahead of it are mine. -/
import Derived.Test.YthpcaaidimmafaaRows
import Derived.Test.YthpcaaidimmafaaDyCov2
import Derived.Test.YthpcaaidimmafaaDyRise
import Derived.Test.YthpcaaidimmafaaValOne
import Derived.Test.YthpcaaidimmafaaValAttrs
import Derived.Test.YthpcaaidimmafaaValCheck
import Derived.OneCell
import Derived.Deep.RegionWith
import Derived.Deep.CutBlock
import Derived.Deep.DeepCutAuto
import Derived.WalkKit
import Derived.WalkLawsBesides
import Derived.ProofKit
import Derived.OpenShut
import Derived.ShutString
import Derived.ChangeOld
import Derived.Below
namespace Go.Proofs.Ythpcaaidimmafaa.dyadRises
open Go.ChangeShapes Go.WideShapes Go.ChangeAt Go.RowKit
open Go.ChangeMaps (open_string shut_string)
set_option linter.unusedVariables false

theorem own : ownKnob Try.prog.godebug = none := by kernel_rfl
theorem laidOut : laidOutB Try.prog = true := by kernel_rfl


theorem sz_cutA (t : List At) : ∀ i, i < ((t.take 6).map cutA).length → (((t.take 6).map cutA).getD i at0).name.size ≤ maxLen := fun i hi => by
  have hi' : i < 6 ∧ i < t.length := by simp at hi; omega
  have e : ((t.take 6).map cutA).getD i at0 = cutA t[i] := by simp [hi'.1, hi'.2]
  rw [e]
  have := cut_size t[i].name 20
  show (cut t[i].name 20).size ≤ maxLen
  unfold maxLen; omega
/-- Two values in boxes of the call's own, and a schema. -/
structure Bx (w wx : World) (v u : Vl) (sl : Value) (L : List At) : Prop where
  c0 : wx.cell? ⟨w.heap.size, 0, none⟩ = some (.int .i64 v.num)
  c1 : wx.cell? ⟨w.heap.size, 1, none⟩ = some (.string v.str)
  k0 : wx.cell? ⟨w.heap.size + 1, 0, none⟩ = some (.int .i64 u.num)
  k1 : wx.cell? ⟨w.heap.size + 1, 1, none⟩ = some (.string u.str)
  row : wx.ownsRow (w.heap.size + 2) 42 4 sl L.length (L.flatMap At.cells)
  bel : Below w.heap.size w wx
  lt : w.heap.size + 1 < wx.heap.size
theorem Bx.below {w wx wy : World} {v u : Vl} {sl : Value} {L : List At} (h : Bx w wx v u sl L) (b : Below wx.heap.size wx wy) : Bx w wy v u sl L :=
  ⟨(b.cell (p := ⟨w.heap.size, 0, none⟩) (Nat.lt_of_succ_lt h.lt)).trans h.c0, (b.cell (p := ⟨w.heap.size, 1, none⟩) (Nat.lt_of_succ_lt h.lt)).trans h.c1, (b.cell (p := ⟨w.heap.size + 1, 0, none⟩) h.lt).trans h.k0, (b.cell (p := ⟨w.heap.size + 1, 1, none⟩) h.lt).trans h.k1, own_carry h.row b, h.bel.trans (b.mono h.bel.size), Nat.lt_of_lt_of_le h.lt b.size⟩
theorem Bx.set1 {w wx : World} {v u : Vl} {sl : Value} {L : List At} (h : Bx w wx v u sl L) (s : ByteArray) : Bx w (wx.setCell ⟨w.heap.size, 1, none⟩ (.string s)) ⟨v.num, s⟩ u sl L :=
  ⟨(World.cell?_setCell_other _ _ _ _ (by simp)).trans h.c0, World.cell?_setCell_same _ _ _ h.c1, (World.cell?_setCell_other _ _ _ _ (by simp)).trans h.k0, (World.cell?_setCell_other _ _ _ _ (by simp)).trans h.k1,
   ownsRow_setCell_other h.row (fun e => by have h9 := (h.row.lt _ e).1; dsimp only at h9; omega) _, h.bel.setCell (Nat.le_refl _) _, by simpa using h.lt⟩
theorem Bx.set2 {w wx : World} {v u : Vl} {sl : Value} {L : List At} (h : Bx w wx v u sl L) (s : ByteArray) : Bx w (wx.setCell ⟨w.heap.size + 1, 1, none⟩ (.string s)) v ⟨u.num, s⟩ sl L :=
  ⟨(World.cell?_setCell_other _ _ _ _ (by simp)).trans h.c0, (World.cell?_setCell_other _ _ _ _ (by simp)).trans h.c1, (World.cell?_setCell_other _ _ _ _ (by simp)).trans h.k0, World.cell?_setCell_same _ _ _ h.k1,
   ownsRow_setCell_other h.row (fun e => by have h9 := (h.row.lt _ e).1; dsimp only at h9; omega) _, h.bel.setCell (by simp) _, by simpa using h.lt⟩
theorem Bx.drewN {w wx : World} {v u : Vl} {sl : Value} {L : List At} (h : Bx w wx v u sl L) (n : Nat) : Bx w (wx.drewN n) v u sl L := h.below (dbeld _ _)
/-! ### STEP 1: the walk -/
set_option maxRecDepth 100000 in
set_option maxHeartbeats 2000000 in
theorem walk (a0 : Option Addr) (len0 cap0 : Nat) (t0 : List At) (a1 : Vl) (a2 : Vl) (a3 : Int) (w : World) (w0 : InRow 4 At.cells At.ok at0 w a0 len0 t0) (w1 : a1.ok) (w2 : a2.ok) (w3 : (Lit.int .i64 a3).wf = true) :
    Calls Try.prog 6 #[.slice a0 len0 cap0, .agg #[.int .i64 a1.num, .string a1.str], .agg #[.int .i64 a2.num, .string a2.str], .int .i64 a3] w fun e w' => e = .returned (.bool true) ∧ Below w.heap.size w w' := by
  obtain ⟨L, hL⟩ : ∃ L, L = (t0.take 6).map cutA := ⟨_, rfl⟩
  have lL : L.length ≤ 6 := by rw [hL]; simp; omega
  have SL : Hid (∀ i, i < L.length → (L.getD i at0).name.size ≤ maxLen) := by rw [hL]; exact sz_cutA t0
  have hc1 := attrs_any a0 len0 cap0 t0 ((w.alloc (.cells #[.int .i64 a1.num, .string a1.str] 44)).alloc (.cells #[.int .i64 a2.num, .string a2.str] 44)) (w0.below (Nat.le_refl _) (below2 _ _ _))
  rw [← hL] at hc1
  have hstr1 : a1.str.size ≤ maxLen := w1.2
  have hstr2 : a2.str.size ≤ maxLen := w2.2
  clear hL w0 w1 w2 w3
  go_enter Try.func6, Try.ntmps6
  go_wp2_with fail
  refine hc1.mono ?_
  rintro e W1 ⟨v1, v2, rfl, R1⟩
  clear hc1
  have bb := R1.bel
  have X1 : Hid (Bx w W1 a1 a2 v1 L) := ⟨(bb.cell (p := ⟨w.heap.size, 0, none⟩) (by simp; omega)).trans (by simp), (bb.cell (p := ⟨w.heap.size, 1, none⟩) (by simp; omega)).trans (by simp), (bb.cell (p := ⟨w.heap.size + 1, 0, none⟩) (by simp)).trans (by simp), (bb.cell (p := ⟨w.heap.size + 1, 1, none⟩) (by simp)).trans (by simp), by simpa using R1.r1, (below2 _ _ _).trans (bb.mono (by simp; omega)), by have := R1.le; simp at this; omega⟩
  have yf : ∀ o, W1.frozen? ⟨w.heap.size, o, none⟩ = false := fun o => (bb.frozen (p := ⟨w.heap.size, o, none⟩) (by simp; omega)).trans (by simp)
  have yg : ∀ o, W1.frozen? ⟨w.heap.size + 1, o, none⟩ = false := fun o => (bb.frozen (p := ⟨w.heap.size + 1, o, none⟩) (by simp)).trans (by simp)
  obtain ⟨av, cv, hv1⟩ := own_shape R1.r1
  subst hv1
  clear R1 bb
  go_wp2_with fail
  refine (check_any _ L _ (AtIn.ofOwn X1.out.row) (by omega) SL.out).mono ?_
  rintro e W4 ⟨hE, b4⟩
  have X4 : Hid (Bx w W4 a1 a2 (.slice av L.length cv) L) := X1.out.below b4
  have df : ∀ o, W4.frozen? ⟨w.heap.size, o, none⟩ = false := fun o => (b4.frozen (p := ⟨w.heap.size, o, none⟩) (Nat.lt_of_succ_lt X1.out.lt)).trans (yf o)
  have dg : ∀ o, W4.frozen? ⟨w.heap.size + 1, o, none⟩ = false := fun o => (b4.frozen (p := ⟨w.heap.size + 1, o, none⟩) X1.out.lt).trans (yg o)
  clear b4 yf yg X1
  rcases hE with ⟨rfl, hC⟩ | ⟨b9, n9, rfl, hC, _⟩
  · by_cases g0 : a3 < 0
    · go_wp2_with fail
      refine (awake7_any _).mono ?_
      rintro e W5 ⟨rfl, b5⟩
      have B5 : Hid (Below w.heap.size w W5) := (X4.out.below b5).bel
      clear b5
      go_wp2
      go_ret
      exact ⟨rfl, B5.out⟩
    · by_cases g1 : 8 < a3
      · go_wp2_with fail
        refine (awake7_any _).mono ?_
        rintro e W5 ⟨rfl, b5⟩
        have B5 : Hid (Below w.heap.size w W5) := (X4.out.below b5).bel
        clear b5
        go_wp2
        go_ret
        exact ⟨rfl, B5.out⟩
      · obtain ⟨n, rfl⟩ : ∃ n : Nat, a3 = n := ⟨a3.toNat, by omega⟩
        have hn : n ≤ 8 := by omega
        have HC : Hid (SchemaOk L) := hC
        clear hC
        go_upto_region 4 with fail
        go_cut [] (fun wx => Bx w wx ⟨a1.num, cut a1.str 50⟩ ⟨a2.num, cut a2.str 50⟩ (.slice av L.length cv) L)
        case first =>
          have d0 := X4.out.c0
          have d1 := X4.out.c1
          have d2 := X4.out.k0
          have d3 := X4.out.k1
          have dl := X4.out.lt
          have dl' : w.heap.size < W4.heap.size := by omega
          go_region_with (go_at_call 21; refine (cut_any _ 50 _ (by first | exact hstr1 | exact hstr2)).mono ?_; rintro e w' ⟨rfl, rfl⟩)
          all_goals
            go_wp2_with fail
            go_meet
            first
              | exact ((X4.out.set1 _).set2 _).below ⟨rfl, rfl, rfl, Nat.le_refl _, fun _ _ => rfl⟩
              | exact ((X4.out.set2 _).set1 _).below ⟨rfl, rfl, rfl, Nat.le_refl _, fun _ _ => rfl⟩
        case rest =>
          rename World => W5
          have X5 : Hid _ := hcut
          have hs1 := cut_size a1.str 50
          have hs2 := cut_size a2.str 50
          generalize cut a1.str 50 = s1 at *
          generalize cut a2.str 50 = s2 at *
          clear hcut X4 df dg
          go_wp2
          go_loopg [42] L.length (fun kx s42 wr => ∃ k : Nat, s42 = .int .i64 k ∧ k ≤ L.length ∧ kx = L.length - k ∧ Hid (Bx w wr ⟨a1.num, s1⟩ ⟨a2.num, s2⟩ (.slice av L.length cv) L))
          case atStart => exact ⟨0, rfl, Nat.zero_le _, rfl, X5⟩
          case round =>
            obtain ⟨k, rfl, hk, rfl, HX⟩ := hrel
            by_cases hlt : k < L.length
            · obtain ⟨g, rfl, hg, hcc, c0, c1, c2, c3⟩ := (AtIn.ofOwn HX.out.row).row k hlt
              have r0 := HX.out.c0
              have r1 := HX.out.c1
              have r2 := HX.out.k0
              have r3 := HX.out.k1
              have rl := HX.out.lt
              have rl' : w.heap.size < wr.heap.size := by omega
              have HOK : Hid (AttrOk (L.getD k at0)) := (HC.out.2.2 k hlt).1
              generalize L.getD k at0 = x at c0 c1 c2 c3 HOK
              obtain ⟨W6, hW6⟩ : ∃ W6, W6 = wr.alloc (.cells #[.string x.name, .int .i64 x.kind, .int .i64 x.mn, .int .i64 x.mx] 42) := ⟨_, rfl⟩
              have b6 : Below wr.heap.size wr W6 := by rw [hW6]; exact below1 _ _
              have s6 : W6.heap.size = wr.heap.size + 1 := by rw [hW6]; simp
              have f0 : W6.cell? ⟨wr.heap.size, 0, none⟩ = some (.string x.name) := by rw [hW6]; simp
              have f1 : W6.cell? ⟨wr.heap.size, 1, none⟩ = some (.int .i64 x.kind) := by rw [hW6]; simp
              have f2 : W6.cell? ⟨wr.heap.size, 2, none⟩ = some (.int .i64 x.mn) := by rw [hW6]; simp
              have f3 : W6.cell? ⟨wr.heap.size, 3, none⟩ = some (.int .i64 x.mx) := by rw [hW6]; simp
              obtain ⟨ι, F, _, hF0, hFb, hFc⟩ := grown_fam W6
              have F0 : ∀ i, (F i).cell? ⟨wr.heap.size, 0, none⟩ = some (.string x.name) := fun i => cell_grown f0 (hFb i)
              have F1 : ∀ i, (F i).cell? ⟨wr.heap.size, 1, none⟩ = some (.int .i64 x.kind) := fun i => cell_grown f1 (hFb i)
              have F2 : ∀ i, (F i).cell? ⟨wr.heap.size, 2, none⟩ = some (.int .i64 x.mn) := fun i => cell_grown f2 (hFb i)
              have F3 : ∀ i, (F i).cell? ⟨wr.heap.size, 3, none⟩ = some (.int .i64 x.mx) := fun i => cell_grown f3 (hFb i)
              have G0 : ∀ i, (F i).cell? ⟨w.heap.size, 0, none⟩ = some (.int .i64 a1.num) := fun i => cell_grown (cell_grown r0 b6) (hFb i)
              have G1 : ∀ i, (F i).cell? ⟨w.heap.size, 1, none⟩ = some (.string s1) := fun i => cell_grown (cell_grown r1 b6) (hFb i)
              have G2 : ∀ i, (F i).cell? ⟨w.heap.size + 1, 0, none⟩ = some (.int .i64 a2.num) := fun i => cell_grown (cell_grown r2 b6) (hFb i)
              have G3 : ∀ i, (F i).cell? ⟨w.heap.size + 1, 1, none⟩ = some (.string s2) := fun i => cell_grown (cell_grown r3 b6) (hFb i)
              have HF : Hid ((∃ i, { W6 with drawn := W6.drawn + 1 } = F i) ∧ (∀ i, Below W6.heap.size W6 (F i)) ∧ (∀ i W, Below W6.heap.size (F i) W → ∃ j, W = F j)) := ⟨hF0, hFb, hFc⟩
              have HX6 : Hid (Bx w W6 ⟨a1.num, s1⟩ ⟨a2.num, s2⟩ (.slice (some ⟨g, 0, none⟩) L.length cv) L) := HX.out.below b6
              have hp2 := pow_le_256 hn
              have HR1 : Hid (x.kind = 1 → -2147483648 ≤ x.mn → x.mx ≤ 2147483648 → x.mn ≤ a1.num → a1.num ≤ a2.num → a2.num ≤ x.mx → 0 ≤ cellOf x ⟨a1.num, s1⟩ n ∧ cellOf x ⟨a1.num, s1⟩ n ≤ cellOf x ⟨a2.num, s2⟩ n) := fun h1 h2 h3 h4 h5 h6 => rise_num (v := ⟨a1.num, s1⟩) (u := ⟨a2.num, s2⟩) hn h1 h2 h3 h4 h5 h6
              have HR2 : Hid (¬ x.kind = 1 → (Op.bytesLess s1.toList s2.toList || s1.toList == s2.toList) = true → 0 ≤ cellOf x ⟨a1.num, s1⟩ n ∧ cellOf x ⟨a1.num, s1⟩ n ≤ cellOf x ⟨a2.num, s2⟩ n) := fun h1 h2 => rise_text (v := ⟨a1.num, s1⟩) (u := ⟨a2.num, s2⟩) hn h1 (tnum_le h2)
              have hhi := cellOf_hi x ⟨a2.num, s2⟩ n hn
              have HC1 : Hid _ := fun W => cell_any x ⟨a1.num, s1⟩ n W (by unfold maxLen; simp; omega)
              have HC2 : Hid _ := fun W => cell_any x ⟨a2.num, s2⟩ n W (by unfold maxLen; simp; omega)
              have hpw := powI n
              generalize 2 ^ n = P at hhi hp2 hpw
              generalize cellOf x ⟨a1.num, s1⟩ n = x1 at *
              generalize cellOf x ⟨a2.num, s2⟩ n = x2 at *
              clear hF0 hFb hFc f0 f1 f2 f3 r0 r1 r2 r3 b6
              go_wp2_with fail
              rw [← hW6]
              clear hW6
              refine wp_region_fam F HF.out.1 (by kernel_rfl) (by kernel_rfl) ?_
              repeat (go_big_quiet_step (first
                | (go_at_call_of 24 (Value.int .i64 a1.num); refine Calls.mono (HC1.out _) ?_; rintro e' w' ⟨hs, hb⟩; exact ⟨hs, HF.out.2.2 _ _ (hb.mono (HF.out.2.1 _).size)⟩)
                | (go_at_call 24; refine Calls.mono (HC2.out _) ?_; rintro e' w' ⟨hs, hb⟩; exact ⟨hs, HF.out.2.2 _ _ (hb.mono (HF.out.2.1 _).size)⟩)))
              refine wpQuiet_nil ?_
              rintro _ ⟨i, rfl⟩
              have HX7 : Hid (Bx w (F i) ⟨a1.num, s1⟩ ⟨a2.num, s2⟩ (.slice (some ⟨g, 0, none⟩) L.length cv) L) := HX6.out.below (HF.out.2.1 i)
              have p0 := F0 i
              have p1 := F1 i
              have p2 := F2 i
              have p3 := F3 i
              have o0 := G0 i
              have o1 := G1 i
              have o2 := G2 i
              have o3 := G3 i
              have ol : w.heap.size + 1 < (F i).heap.size := HX7.out.lt
              have ol2 : wr.heap.size < (F i).heap.size := by have := (HF.out.2.1 i).size; omega
              generalize F i = W7 at *
              clear F0 F1 F2 F3 G0 G1 G2 G3 HF HX6 c0 c1 c2 c3
              have ol' : w.heap.size < W7.heap.size := by omega
              rcases HOK.out.2 with ⟨hk1, hm1, hm2, hm3⟩ | ⟨hk2, hm1, hm2⟩
              · have hkk : (x.kind == 2) = false := by rw [hk1]; rfl
                by_cases e1 : a1.num < x.mn
                · skip
                  go_wp2
                  go_roundg (L.length - (k + 1))
                  case measure => omega
                  case rel => exact ⟨k + 1, by go_num, by omega, rfl, HX7⟩
                · by_cases e2 : x.mx < a2.num
                  · skip
                    go_wp2
                    go_roundg (L.length - (k + 1))
                    case measure => omega
                    case rel => exact ⟨k + 1, by go_num, by omega, rfl, HX7⟩
                  · by_cases e3 : a2.num < a1.num
                    · skip
                      go_wp2
                      go_roundg (L.length - (k + 1))
                      case measure => omega
                      case rel => exact ⟨k + 1, by go_num, by omega, rfl, HX7⟩
                    · obtain ⟨z1, z2⟩ := HR1.out hk1 hm1 hm3 (by omega) (by omega) (by omega)
                      have z3 : ¬ x1 < 0 := by omega
                      have z4 : ¬ x2 < x1 := by omega
                      have z5 : ¬ (P : Int) ≤ x2 := by omega
                      go_wp2
                      go_roundg (L.length - (k + 1))
                      case measure => omega
                      case rel => exact ⟨k + 1, by go_num, by omega, rfl, HX7⟩
              · have hk1 : ¬ x.kind = 1 := by omega
                cases hcmp : (Op.bytesLess s1.toList s2.toList || s1.toList == s2.toList) with
                | false =>
                  go_wp2
                  go_roundg (L.length - (k + 1))
                  case measure => omega
                  case rel => exact ⟨k + 1, by go_num, by omega, rfl, HX7⟩
                | true =>
                  obtain ⟨z1, z2⟩ := HR2.out hk1 hcmp
                  have z3 : ¬ x1 < 0 := by omega
                  have z4 : ¬ x2 < x1 := by omega
                  have z5 : ¬ (P : Int) ≤ x2 := by omega
                  go_wp2
                  go_roundg (L.length - (k + 1))
                  case measure => omega
                  case rel => exact ⟨k + 1, by go_num, by omega, rfl, HX7⟩
            · have B9 : Hid (Below w.heap.size w wr) := HX.out.bel
              go_wp2_with fail
              refine (awake7_any _).mono ?_
              rintro e W8 ⟨rfl, b8⟩
              have B8 : Hid (Below w.heap.size w W8) := B9.out.trans (b8.mono B9.out.size)
              clear b8
              go_wp2
              go_ret
              exact ⟨rfl, B8.out⟩
  · go_wp2_with fail
    refine (awake7_any _).mono ?_
    rintro e W5 ⟨rfl, b5⟩
    have B5 : Hid (Below w.heap.size w W5) := (X4.out.below b5).bel
    clear b5
    go_wp2
    go_ret
    exact ⟨rfl, B5.out⟩

/-! ### The row's step -/
set_option maxRecDepth 100000 in
theorem lifted (os : Os) (started : os.Started) (H : Type) (enc : TypeId × Value → H) :
    ReturnsInHanded {} Try.checked os 6 .any (Rows.dyadRisesSpec.pre6 enc Try.prog Try.f6 Rows.dyadRisesRow.domain false) (Rows.dyadRisesSpec.post enc Try.prog Try.f6 false true false false) := by
  refine returnsInHanded_of_change (C := Try.checked) own started (by kernel_rfl) Try.func6
    (ChangeSpec.witness6 (enc := enc) (C := Try.checked) false ⟨#[], #[.slice none 0 0, .agg #[.int .i64 0, .string ByteArray.empty], .agg #[.int .i64 0, .string ByteArray.empty], .int .i64 0], []⟩ 8 (by kernel_rfl) (by kernel_rfl) (by kernel_rfl) (by kernel_rfl)) ?_
  intro W base args ds gs before hval0 hW hcnd _
  have hval : ∀ (j : Nat) t v, Try.f6.params[j]? = some t → args[j]? = some v → Value.okWide Try.prog W .any base t v := hval0
  have hW' := hW
  obtain ⟨p, q, hA0, hV, rfl, hfz, hnd⟩ := hW
  have hA : DataW.TrodAll enc Try.prog W 0 (fun _ => true) true Try.f6.params.toList args.toList ds p := hA0
  rw [Try.params6] at hA hval
  obtain ⟨v0, vs0, d0, ds0, p0, q0, hargs, rfl, rfl, h0, r0⟩ := trodAll_cons hA
  obtain ⟨v1, vs1, d1, ds1, p1, q1, rfl, rfl, rfl, h1, r1⟩ := trodAll_cons r0
  obtain ⟨v2, vs2, d2, ds2, p2, q2, rfl, rfl, rfl, h2, r2⟩ := trodAll_cons r1
  obtain ⟨v3, vs3, d3, ds3, p3, q3, rfl, rfl, rfl, h3, r3⟩ := trodAll_cons r2
  obtain ⟨rfl, rfl, rfl⟩ := trodAll_nil r3
  obtain rfl : args = #[v0, v1, v2, v3] := by cases args; simp_all
  obtain ⟨rfl, rfl⟩ := trodVars_none hV
  obtain ⟨a0, len0, cap0, rfl⟩ := okWide_slice Try.underlying58 (hval 0 58 v0 rfl rfl)
  have k0 := h0
  have lt0 : ∀ x ∈ p0, x.block < W.heap.size := by obtain ⟨m, hm⟩ := k0; exact DataW.trod_lt m _ _ _ hm
  obtain ⟨t0, w0⟩ : ∃ ts, InRow 4 At.cells At.ok at0 W a0 len0 ts := by
    obtain ⟨fuel, hf⟩ := h0
    exact inrow_of 4 At.cells At.ok at0 58 42 Try.underlying58 cellsAt (by omega) At.cells_len (fun n cs x => at_of n cs x) hf
  obtain ⟨cs1, rfl, hcs1⟩ := okWide_struct Try.underlying44 (hval 1 44 v1 rfl rfl)
  have k1 := h1
  have lt1 : ∀ x ∈ p1, x.block < W.heap.size := by obtain ⟨m, hm⟩ := k1; exact DataW.trod_lt m _ _ _ hm
  obtain ⟨fuel1, hf1⟩ := h1
  obtain ⟨a1, rfl, w1⟩ := vl_one hcs1 hf1
  obtain ⟨cs2, rfl, hcs2⟩ := okWide_struct Try.underlying44 (hval 2 44 v2 rfl rfl)
  have k2 := h2
  have lt2 : ∀ x ∈ p2, x.block < W.heap.size := by obtain ⟨m, hm⟩ := k2; exact DataW.trod_lt m _ _ _ hm
  obtain ⟨fuel2, hf2⟩ := h2
  obtain ⟨a2, rfl, w2⟩ := vl_one hcs2 hf2
  obtain ⟨a3, rfl, rfl, rfl, w3⟩ := open_int Try.underlying3 (hval 3 3 v3 rfl rfl) h3
  clear hA0 hval0
  refine (walk a0 len0 cap0 t0 a1 a2 a3 W w0 w1 w2 w3).mono fun e W' ⟨he, bel⟩ => ?_
  subst he
  exact ⟨_, rfl, _, _, _, [], _, [], hW', trodAll_mk1 (shut_bool Try.underlying4 _), (trodAll_cons_mk (Below.trod laidOut (by kernel_rfl) (of_decide_eq_true (by kernel_rfl)) k0 bel lt0) (trodAll_cons_mk (Below.trod laidOut (by kernel_rfl) (of_decide_eq_true (by kernel_rfl)) k1 bel lt1) (trodAll_cons_mk (Below.trod laidOut (by kernel_rfl) (of_decide_eq_true (by kernel_rfl)) k2 bel lt2) (trodAll_cons_mk (shut_int Try.underlying3 w3) trodAll_mk0)))), rfl, bel.frame _, fun h => by cases h⟩

theorem over : Rows.dyadRisesRow.holds Try.pinned (OpenSpec.ofChange Rows.dyadRisesSpec) :=
  OpenClaim.holds_of_wide 6 Try.f6 rfl rfl rfl rfl rfl rfl rfl ⟨rfl, rfl, rfl, rfl, rfl⟩ rfl rfl rfl rfl rfl (by kernel_rfl) Try.func6 (by kernel_rfl)
    (of_decide_eq_true (by kernel_rfl)) (by unfold Func.isWrapper; first | (rw [if_pos (by decide +kernel)]; kernel_rfl) | (rw [if_neg (by decide +kernel)]; exact ⟨rfl, rfl⟩))
    (fun os started H enc _ => lifted os started H enc)

end Go.Proofs.Ythpcaaidimmafaa.dyadRises

namespace Go.Proofs.Ythpcaaidimmafaa
/-- Proved: for every schema, every two values and every number of levels, DyadRises answers true (a greater value has no lesser cell, and all cells are cells; of any attribute of a schema). -/
theorem dyadRises_holds : Rows.DyadRisesSaid := dyadRises.over
#print axioms dyadRises_holds
end Go.Proofs.Ythpcaaidimmafaa
