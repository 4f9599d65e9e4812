/- Proved: for every schema, filter, event and number of levels, DyadTakes answers true (an event that a filter takes has, for each predicate, a cell within its range).
  The frame is the guide's own shell (proof-skeleton.mjs) at this function; the walk and all ahead of it are mine. -/
import Derived.Test.YthpcaaidimmafaaRows
import Derived.Test.YthpcaaidimmafaaDyCov2
import Derived.Test.YthpcaaidimmafaaDyTake
import Derived.Test.YthpcaaidimmafaaValOne
import Derived.Test.YthpcaaidimmafaaValEv
import Derived.OneCell
import Derived.Deep.RegionWith
import Derived.WalkKit
import Derived.WalkLawsBesides
import Derived.ProofKit
import Derived.OpenShut
import Derived.ShutString
import Derived.ChangeOld
import Derived.Below
namespace Go.Proofs.Ythpcaaidimmafaa.dyadTakes
open Go.ChangeShapes Go.WideShapes Go.ChangeAt Go.RowKit
open Go.ChangeMaps (open_string shut_string)
set_option linter.unusedVariables false

theorem own : ownKnob Try.prog.godebug = none := by kernel_rfl
theorem laidOut : laidOutB Try.prog = true := by kernel_rfl


theorem sz_cutA (t : List At) : ∀ i, i < ((t.take 6).map cutA).length → (((t.take 6).map cutA).getD i at0).name.size ≤ maxLen := fun i hi => by
  have hi' : i < 6 ∧ i < t.length := by simp at hi; omega
  have e : ((t.take 6).map cutA).getD i at0 = cutA t[i] := by simp [hi'.1, hi'.2]
  rw [e]
  have := cut_size t[i].name 20
  show (cut t[i].name 20).size ≤ maxLen
  unfold maxLen; omega
theorem sz_cutV (t : List Vl) : ∀ i, i < ((t.take 6).map cutV).length → (((t.take 6).map cutV).getD i vl0).str.size ≤ 50 := fun i hi => by
  have hi' : i < 6 ∧ i < t.length := by simp at hi; omega
  have e : ((t.take 6).map cutV).getD i vl0 = cutV t[i] := by simp [hi'.1, hi'.2]
  rw [e]
  exact cut_size t[i].str 50
theorem sz_cutP (t : List Pd) : ∀ i, i < ((t.take 6).map cutP).length → (((t.take 6).map cutP).getD i pd0).str.size ≤ 50 := fun i hi => by
  have hi' : i < 6 ∧ i < t.length := by simp at hi; omega
  have e : ((t.take 6).map cutP).getD i pd0 = cutP t[i] := by simp [hi'.1, hi'.2]
  rw [e]
  exact cut_size t[i].str 50
/-- A schema, a filter and an event of the call's own. -/
structure Mem (w W : World) (sl gl ul : Value) (L : List At) (G : List Pd) (V : List Vl) (eb : Nat) (pay : ByteArray) : Prop where
  at_ : AtIn W sl L
  pd : PdIn W gl G
  vl : VlIn W ul V
  e0 : W.cell? ⟨eb, 0, none⟩ = some ul
  e1 : W.cell? ⟨eb, 1, none⟩ = some (.string pay)
  bel : Below w.heap.size w W
theorem Mem.below {w W W' : World} {sl gl ul : Value} {L : List At} {G : List Pd} {V : List Vl} {eb : Nat} {pay : ByteArray} (h : Mem w W sl gl ul L G V eb pay) (b : Below W.heap.size W W') : Mem w W' sl gl ul L G V eb pay :=
  ⟨h.at_.below b, h.pd.below b, h.vl.below b, cell_grown h.e0 b, cell_grown h.e1 b, h.bel.trans (b.mono h.bel.size)⟩
theorem Mem.lt {w W : World} {sl gl ul : Value} {L : List At} {G : List Pd} {V : List Vl} {eb : Nat} {pay : ByteArray} (h : Mem w W sl gl ul L G V eb pay) : eb < W.heap.size := cell_block h.e0
theorem all_in {L : List At} {G : List Pd} {V : List Vl} {m n : Nat} (hn : n ≤ 8) (hs : SchemaOk L) (h : MatchOk L G V m) (i : Nat) (hi : i < G.length) :
    ∃ k, FindAt L (G.getD i pd0).name k ∧ k < V.length ∧ 0 ≤ (rangeOf (L.getD k at0) (G.getD i pd0) n).1 ∧ (rangeOf (L.getD k at0) (G.getD i pd0) n).1 ≤ cellOf (L.getD k at0) (V.getD k vl0) n ∧ cellOf (L.getD k at0) (V.getD k vl0) n ≤ (rangeOf (L.getD k at0) (G.getD i pd0) n).2 ∧ (rangeOf (L.getD k at0) (G.getD i pd0) n).2 < ((2 ^ n : Nat) : Int) := by
  obtain ⟨_, k, hf, hp⟩ := h.1.2.2 i hi
  obtain ⟨k', hf', ht⟩ := h.2.2 i hi
  obtain rfl := hf.uniq hf'
  exact ⟨k, hf, by rw [h.2.1.1]; exact hf.1, takes_cells hn (hs.2.2 k hf.1).1 hp (h.2.1.2.2 k hf.1) ht⟩
theorem found_is {L : List At} {n : ByteArray} {r : Int} {k : Nat} (h : Found L n r) (g : FindAt L n k) : r = k := by
  rcases h with ⟨k', rfl, h⟩ | ⟨_, h⟩
  · rw [h.uniq g]
  · exact absurd g.2.1 (h k g.1)
/-! ### STEP 1: the walk -/
set_option maxRecDepth 100000 in
set_option maxHeartbeats 2000000 in
theorem walk (a0 : Option Addr) (len0 cap0 : Nat) (t0 : List At) (a1 : Option Addr) (len1 cap1 : Nat) (t1 : List Pd) (a2 : Option Addr) (len2 cap2 : Nat) (t2 : List Vl) (s2 : ByteArray) (a3 : Int) (w : World) (w0 : InRow 4 At.cells At.ok at0 w a0 len0 t0) (w1 : InRow 5 Pd.cells Pd.ok pd0 w a1 len1 t1) (w2 : InRow 2 Vl.cells Vl.ok vl0 w a2 len2 t2) (z2 : s2.size ≤ maxLen) (w3 : (Lit.int .i64 a3).wf = true) :
    Calls Try.prog 7 #[.slice a0 len0 cap0, .slice a1 len1 cap1, .agg #[.slice a2 len2 cap2, .string s2], .int .i64 a3] w fun e w' => e = .returned (.bool true) ∧ Below w.heap.size w w' := by
  obtain ⟨L, hL⟩ : ∃ L, L = (t0.take 6).map cutA := ⟨_, rfl⟩
  obtain ⟨G, hG⟩ : ∃ G, G = (t1.take 6).map cutP := ⟨_, rfl⟩
  obtain ⟨V, hV⟩ : ∃ V, V = (t2.take 6).map cutV := ⟨_, rfl⟩
  obtain ⟨pay, hpay⟩ : ∃ pay, pay = cut s2 210 := ⟨_, rfl⟩
  have lL : L.length ≤ 6 := by rw [hL]; simp; omega
  have lG : G.length ≤ 6 := by rw [hG]; simp; omega
  have lV : V.length ≤ 6 := by rw [hV]; simp; omega
  have SL : Hid (∀ i, i < L.length → (L.getD i at0).name.size ≤ maxLen) := by rw [hL]; exact sz_cutA t0
  have SG : Hid (∀ i, i < G.length → (G.getD i pd0).str.size ≤ 50) := by rw [hG]; exact sz_cutP t1
  have SV : Hid (∀ i, i < V.length → (V.getD i vl0).str.size ≤ 50) := by rw [hV]; exact sz_cutV t2
  have SP : Hid (pay.size ≤ maxLen) := by
    have := cut_size s2 210
    show pay.size ≤ maxLen
    rw [hpay]; unfold maxLen; omega
  have hc1 := attrs_any a0 len0 cap0 t0 (w.alloc (.cells #[.slice a2 len2 cap2, .string s2] 70)) (w0.below (Nat.le_refl _) (below1 _ _))
  rw [← hL] at hc1
  have HV : Hid (V = (t2.take 6).map cutV) := hV
  have HY : Hid (pay = cut s2 210) := hpay
  have HG : Hid (G = (t1.take 6).map cutP) := hG
  clear hL hV hpay hG w3
  go_enter Try.func7, Try.ntmps7
  go_wp2_with fail
  refine hc1.mono ?_
  rintro e W1 ⟨v1, v2, rfl, R1⟩
  clear hc1
  have A1 : Hid (AtIn W1 v1 L) := AtIn.ofOwn R1.r1
  have bb := R1.bel
  have B1 : Hid (Below w.heap.size w W1) := (below1 _ _).trans (bb.mono (by simp))
  have y0 : W1.cell? ⟨w.heap.size, 0, none⟩ = some (.slice a2 len2 cap2) := (bb.cell (p := ⟨w.heap.size, 0, none⟩) (by simp)).trans (by simp)
  have y1 : W1.cell? ⟨w.heap.size, 1, none⟩ = some (.string s2) := (bb.cell (p := ⟨w.heap.size, 1, none⟩) (by simp)).trans (by simp)
  obtain ⟨av, cv, hv1⟩ := own_shape R1.r1
  subst hv1
  clear R1 bb
  have hc2 := preds_any a1 len1 cap1 t1 W1 (w1.below (Nat.le_refl _) B1.out)
  rw [← HG.out] at hc2
  go_wp2_with fail
  refine hc2.mono ?_
  rintro e W2 ⟨p1, p2, rfl, R2⟩
  clear hc2
  have P2 : Hid (PdIn W2 p1 G) := PdIn.ofOwn R2.r1
  have b2 := R2.bel
  have A2 : Hid (AtIn W2 (.slice av L.length cv) L) := A1.out.below b2
  have B2 : Hid (Below w.heap.size w W2) := B1.out.trans (b2.mono B1.out.size)
  have x0 := cell_grown y0 b2
  have x1 := cell_grown y1 b2
  have xl : w.heap.size < W2.heap.size := cell_block x0
  obtain ⟨ag, cg, hg1⟩ := own_shape R2.r1
  subst hg1
  clear R2 b2 A1 B1 y0 y1
  have hc3 := ev_any a2 len2 cap2 s2 t2 W2 (w2.below (Nat.le_refl _) B2.out) z2
  rw [← HV.out, ← HY.out] at hc3
  go_wp2_with fail
  refine hc3.mono ?_
  rintro e W3 ⟨u1, u2, rfl, r1, _, _, b3⟩
  clear hc3
  obtain ⟨au, cu, hu1⟩ := own_shape r1
  subst hu1
  obtain ⟨W4, hW4⟩ : ∃ W4, W4 = W3.alloc (.cells #[.slice au V.length cu, .string pay] 70) := ⟨_, rfl⟩
  have b4 : Below W3.heap.size W3 W4 := by rw [hW4]; exact below1 _ _
  have M4 : Hid (Mem w W4 (.slice av L.length cv) (.slice ag G.length cg) (.slice au V.length cu) L G V W3.heap.size pay) := ⟨(A2.out.below b3).below b4, (P2.out.below b3).below b4, (VlIn.ofOwn r1).below b4, by rw [hW4]; simp, by rw [hW4]; simp, B2.out.trans ((b3.trans (b4.mono b3.size)).mono B2.out.size)⟩
  have HEB : Hid (W3.heap.size < W4.heap.size) := M4.out.lt
  clear r1 b3 b4 x0 x1 xl B2 A2 P2
  go_wp2_with fail
  rw [← hW4]
  clear hW4
  refine (check_any _ L _ M4.out.at_ (by omega) SL.out).mono ?_
  rintro e W5 ⟨hE, b5⟩
  have M5 : Hid (Mem w W5 (.slice av L.length cv) (.slice ag G.length cg) (.slice au V.length cu) L G V W3.heap.size pay) := M4.out.below b5
  clear b5 M4 HEB
  generalize W3.heap.size = eb at *
  rcases hE with ⟨rfl, hC⟩ | ⟨b9, n9, rfl, hC, _⟩
  · have HC : Hid (SchemaOk L) := hC
    have q0 := M5.out.e0
    have q1 := M5.out.e1
    have ql := M5.out.lt
    clear hC
    go_wp2_with fail
    refine (match_any _ _ _ L G V pay _ M5.out.at_ M5.out.pd M5.out.vl (by omega) (by omega) (by omega) SP.out (fun i hi => Nat.le_trans (SG.out i hi) (by unfold maxLen; omega)) (fun i hi => Nat.le_trans (SV.out i hi) (by unfold maxLen; omega))).mono ?_
    rintro e W6 ⟨⟨mb, rfl, hmb⟩, b6⟩
    have M6 : Hid (Mem w W6 (.slice av L.length cv) (.slice ag G.length cg) (.slice au V.length cu) L G V eb pay) := M5.out.below b6
    clear b6 M5 q0 q1 ql
    cases mb with
    | false =>
      clear hmb
      go_wp2_with fail
      refine (awake7_any _).mono ?_
      rintro e W7 ⟨rfl, b7⟩
      have B7 : Hid (Below w.heap.size w W7) := (M6.out.below b7).bel
      clear b7
      go_wp2
      go_ret
      exact ⟨rfl, B7.out⟩
    | true =>
      have HM : Hid (MatchOk L G V pay.size) := hmb.1 rfl
      clear hmb
      by_cases g0 : a3 < 0
      · go_wp2_with fail
        refine (awake7_any _).mono ?_
        rintro e W7 ⟨rfl, b7⟩
        have B7 : Hid (Below w.heap.size w W7) := (M6.out.below b7).bel
        clear b7
        go_wp2
        go_ret
        exact ⟨rfl, B7.out⟩
      · by_cases g1 : 8 < a3
        · go_wp2_with fail
          refine (awake7_any _).mono ?_
          rintro e W7 ⟨rfl, b7⟩
          have B7 : Hid (Below w.heap.size w W7) := (M6.out.below b7).bel
          clear b7
          go_wp2
          go_ret
          exact ⟨rfl, B7.out⟩
        · obtain ⟨n, rfl⟩ : ∃ n : Nat, a3 = n := ⟨a3.toNat, by omega⟩
          have hn : n ≤ 8 := by omega
          go_wp2
          go_loopg [57] G.length (fun kx s57 wr => ∃ i : Nat, s57 = .int .i64 i ∧ i ≤ G.length ∧ kx = G.length - i ∧ Hid (Mem w wr (.slice av L.length cv) (.slice ag G.length cg) (.slice au V.length cu) L G V eb pay))
          case atStart => exact ⟨0, rfl, Nat.zero_le _, rfl, M6⟩
          case round =>
            obtain ⟨i, rfl, hi, rfl, M⟩ := hrel
            by_cases hlt : i < G.length
            · obtain ⟨g, rfl, hg, hcc, c0, c1, c2, c3, c4⟩ := M.out.pd.row i hlt
              obtain ⟨k, hfk, hkv, z0, z1, z2, z3⟩ := all_in hn HC.out HM.out i hlt
              have hsq := SG.out i hlt
              have hkl : k < L.length := hfk.1
              obtain ⟨q, hq⟩ : ∃ q, q = G.getD i pd0 := ⟨_, rfl⟩
              rw [← hq] at c0 c1 c2 c3 c4 hfk z0 z1 z2 z3 hsq
              clear hq
              obtain ⟨W8, hW8⟩ : ∃ W8, W8 = wr.alloc (.cells #[.string q.name, .int .i64 q.op, .int .i64 q.lo, .int .i64 q.hi, .string q.str] 46) := ⟨_, rfl⟩
              have b8 : Below wr.heap.size wr W8 := by rw [hW8]; exact below1 _ _
              have f0 : W8.cell? ⟨wr.heap.size, 0, none⟩ = some (.string q.name) := by rw [hW8]; simp
              have f1 : W8.cell? ⟨wr.heap.size, 1, none⟩ = some (.int .i64 q.op) := by rw [hW8]; simp
              have f2 : W8.cell? ⟨wr.heap.size, 2, none⟩ = some (.int .i64 q.lo) := by rw [hW8]; simp
              have f3 : W8.cell? ⟨wr.heap.size, 3, none⟩ = some (.int .i64 q.hi) := by rw [hW8]; simp
              have f4 : W8.cell? ⟨wr.heap.size, 4, none⟩ = some (.string q.str) := by rw [hW8]; simp
              have M8 : Hid (Mem w W8 (.slice av L.length cv) (.slice (some ⟨g, 0, none⟩) G.length cg) (.slice au V.length cu) L G V eb pay) := M.out.below b8
              have HFK : Hid (FindAt L q.name k) := hfk
              clear b8 hfk
              go_wp2_with fail
              rw [← hW8]
              clear hW8
              refine (find_any _ L q.name _ M8.out.at_ (by omega)).mono ?_
              rintro e W9 ⟨⟨r, rfl, hfr⟩, b9⟩
              obtain rfl : r = k := found_is hfr HFK.out
              have d0 := cell_grown f0 b9
              have d1 := cell_grown f1 b9
              have d2 := cell_grown f2 b9
              have d3 := cell_grown f3 b9
              have d4 := cell_grown f4 b9
              have M9 : Hid (Mem w W9 (.slice av L.length cv) (.slice (some ⟨g, 0, none⟩) G.length cg) (.slice au V.length cu) L G V eb pay) := M8.out.below b9
              clear b9 f0 f1 f2 f3 f4 M8 hfr c0 c1 c2 c3 c4
              obtain ⟨ga, rfl, hga, hca, k0, k1, k2, k3⟩ := M9.out.at_.row k hkl
              obtain ⟨gv, rfl, hgv, hcv, n0, n1⟩ := M9.out.vl.row k hkv
              have SVk := SV.out k hkv
              obtain ⟨x, hx⟩ : ∃ x, x = L.getD k at0 := ⟨_, rfl⟩
              obtain ⟨y, hy⟩ : ∃ y, y = V.getD k vl0 := ⟨_, rfl⟩
              rw [← hx] at k0 k1 k2 k3 z0 z1 z2 z3
              rw [← hy] at n0 n1 z1 z2 SVk
              clear hx hy
              have q0 := M9.out.e0
              have ql := M9.out.lt
              have HR : Hid _ := fun W => range_any x q n W (by omega)
              have HCL : Hid _ := fun W => cell_any x y n W (by unfold maxLen; omega)
              have hp2 := pow_le_256 hn
              have hpw := powI n
              generalize 2 ^ n = P at z3 hp2 hpw
              generalize cellOf x y n = cc at *
              generalize (rangeOf x q n).1 = r1 at *
              generalize (rangeOf x q n).2 = r2 at *
              obtain ⟨ι, F, _, hF0, hFb, hFc⟩ := grown_fam W9
              have F0 : ∀ i, (F i).cell? ⟨ga, k * 4, none⟩ = some (.string x.name) := fun i => cell_grown k0 (hFb i)
              have F1 : ∀ i, (F i).cell? ⟨ga, k * 4 + 1, none⟩ = some (.int .i64 x.kind) := fun i => cell_grown k1 (hFb i)
              have F2 : ∀ i, (F i).cell? ⟨ga, k * 4 + 2, none⟩ = some (.int .i64 x.mn) := fun i => cell_grown k2 (hFb i)
              have F3 : ∀ i, (F i).cell? ⟨ga, k * 4 + 3, none⟩ = some (.int .i64 x.mx) := fun i => cell_grown k3 (hFb i)
              have G0 : ∀ i, (F i).cell? ⟨wr.heap.size, 0, none⟩ = some (.string q.name) := fun i => cell_grown d0 (hFb i)
              have G1 : ∀ i, (F i).cell? ⟨wr.heap.size, 1, none⟩ = some (.int .i64 q.op) := fun i => cell_grown d1 (hFb i)
              have G2 : ∀ i, (F i).cell? ⟨wr.heap.size, 2, none⟩ = some (.int .i64 q.lo) := fun i => cell_grown d2 (hFb i)
              have G3 : ∀ i, (F i).cell? ⟨wr.heap.size, 3, none⟩ = some (.int .i64 q.hi) := fun i => cell_grown d3 (hFb i)
              have G4 : ∀ i, (F i).cell? ⟨wr.heap.size, 4, none⟩ = some (.string q.str) := fun i => cell_grown d4 (hFb i)
              have HF : Hid ((∃ i, { W9 with drawn := W9.drawn + 1 } = F i) ∧ (∀ i, Below W9.heap.size W9 (F i)) ∧ (∀ i W, Below W9.heap.size (F i) W → ∃ j, W = F j)) := ⟨hF0, hFb, hFc⟩
              clear hF0 hFb hFc
              have ix : (0 : Int) ≤ (k : Int) ∧ (k : Int) < (L.length : Int) := by omega
              have iy : (0 : Int) ≤ (k : Int) ∧ (k : Int) < (V.length : Int) := by omega
              go_wp2_with fail
              refine wp_region_fam F HF.out.1 (by kernel_rfl) (by kernel_rfl) ?_
              repeat (go_big_quiet_step ((go_at_call 22; refine Calls.mono (HR.out _) ?_; rintro e' w' ⟨hs, hb⟩; exact ⟨hs, HF.out.2.2 _ _ (hb.mono (HF.out.2.1 _).size)⟩)))
              refine wpQuiet_nil ?_
              rintro _ ⟨j, rfl⟩
              have b10 := HF.out.2.1 j
              have M10 : Hid (Mem w (F j) (.slice (some ⟨ga, 0, none⟩) L.length cv) (.slice (some ⟨g, 0, none⟩) G.length cg) (.slice (some ⟨gv, 0, none⟩) V.length cu) L G V eb pay) := M9.out.below b10
              have o0 := F0 j
              have o1 := F1 j
              have o2 := F2 j
              have o3 := F3 j
              have u0 := cell_grown n0 b10
              have u1 := cell_grown n1 b10
              have t0' := cell_grown q0 b10
              generalize F j = WA at *
              clear F0 F1 F2 F3 G0 G1 G2 G3 G4 HF b10 d0 d1 d2 d3 d4 k0 k1 k2 k3 n0 n1 q0 ql
              obtain ⟨ι2, F, _, hF0, hFb, hFc⟩ := grown_fam WA
              have F0 : ∀ i, (F i).cell? ⟨ga, k * 4, none⟩ = some (.string x.name) := fun i => cell_grown o0 (hFb i)
              have F1 : ∀ i, (F i).cell? ⟨ga, k * 4 + 1, none⟩ = some (.int .i64 x.kind) := fun i => cell_grown o1 (hFb i)
              have F2 : ∀ i, (F i).cell? ⟨ga, k * 4 + 2, none⟩ = some (.int .i64 x.mn) := fun i => cell_grown o2 (hFb i)
              have F3 : ∀ i, (F i).cell? ⟨ga, k * 4 + 3, none⟩ = some (.int .i64 x.mx) := fun i => cell_grown o3 (hFb i)
              have G0 : ∀ i, (F i).cell? ⟨gv, k * 2, none⟩ = some (.int .i64 y.num) := fun i => cell_grown u0 (hFb i)
              have G1 : ∀ i, (F i).cell? ⟨gv, k * 2 + 1, none⟩ = some (.string y.str) := fun i => cell_grown u1 (hFb i)
              have G2 : ∀ i, (F i).cell? ⟨eb, 0, none⟩ = some (.slice (some ⟨gv, 0, none⟩) V.length cu) := fun i => cell_grown t0' (hFb i)
              have HF : Hid ((∃ i, { WA with drawn := WA.drawn + 1 } = F i) ∧ (∀ i, Below WA.heap.size WA (F i)) ∧ (∀ i W, Below WA.heap.size (F i) W → ∃ j, W = F j)) := ⟨hF0, hFb, hFc⟩
              clear hF0 hFb hFc
              go_wp2_with fail
              refine wp_region_fam F HF.out.1 (by kernel_rfl) (by kernel_rfl) ?_
              repeat (go_big_quiet_step ((go_at_call 24; refine Calls.mono (HCL.out _) ?_; rintro e' w' ⟨hs, hb⟩; exact ⟨hs, HF.out.2.2 _ _ (hb.mono (HF.out.2.1 _).size)⟩)))
              refine wpQuiet_nil ?_
              rintro _ ⟨j2, rfl⟩
              have M11 : Hid (Mem w (F j2) (.slice (some ⟨ga, 0, none⟩) L.length cv) (.slice (some ⟨g, 0, none⟩) G.length cg) (.slice (some ⟨gv, 0, none⟩) V.length cu) L G V eb pay) := M10.out.below (HF.out.2.1 j2)
              generalize F j2 = WB at M11
              clear F0 F1 F2 F3 G0 G1 G2 HF M10 o0 o1 o2 o3 u0 u1 t0'
              have y1 : ¬ r1 < 0 := by omega
              have y2 : ¬ cc < r1 := by omega
              have y3 : ¬ r2 < cc := by omega
              have y4 : ¬ (P : Int) ≤ r2 := by omega
              go_wp2
              go_roundg (G.length - (i + 1))
              case measure => omega
              case rel => exact ⟨i + 1, by go_num, by omega, rfl, M11⟩
            · have B9 : Hid (Below w.heap.size w wr) := M.out.bel
              go_wp2_with fail
              refine (awake7_any _).mono ?_
              rintro e W8 ⟨rfl, b8⟩
              have B8 : Hid (Below w.heap.size w W8) := B9.out.trans (b8.mono B9.out.size)
              clear b8
              go_wp2
              go_ret
              exact ⟨rfl, B8.out⟩
  · go_wp2_with fail
    refine (awake7_any _).mono ?_
    rintro e W7 ⟨rfl, b7⟩
    have B7 : Hid (Below w.heap.size w W7) := (M5.out.below b7).bel
    clear b7
    go_wp2
    go_ret
    exact ⟨rfl, B7.out⟩

/-! ### The row's step -/
set_option maxRecDepth 100000 in
theorem lifted (os : Os) (started : os.Started) (H : Type) (enc : TypeId × Value → H) :
    ReturnsInHanded {} Try.checked os 7 .any (Rows.dyadTakesSpec.pre6 enc Try.prog Try.f7 Rows.dyadTakesRow.domain false) (Rows.dyadTakesSpec.post enc Try.prog Try.f7 false true false false) := by
  refine returnsInHanded_of_change (C := Try.checked) own started (by kernel_rfl) Try.func7
    (ChangeSpec.witness6 (enc := enc) (C := Try.checked) false ⟨#[], #[.slice none 0 0, .slice none 0 0, .agg #[.slice none 0 0, .string ByteArray.empty], .int .i64 0], []⟩ 8 (by kernel_rfl) (by kernel_rfl) (by kernel_rfl) (by kernel_rfl)) ?_
  intro W base args ds gs before hval0 hW hcnd _
  have hval : ∀ (j : Nat) t v, Try.f7.params[j]? = some t → args[j]? = some v → Value.okWide Try.prog W .any base t v := hval0
  have hW' := hW
  obtain ⟨p, q, hA0, hV, rfl, hfz, hnd⟩ := hW
  have hA : DataW.TrodAll enc Try.prog W 0 (fun _ => true) true Try.f7.params.toList args.toList ds p := hA0
  rw [Try.params7] at hA hval
  obtain ⟨v0, vs0, d0, ds0, p0, q0, hargs, rfl, rfl, h0, r0⟩ := trodAll_cons hA
  obtain ⟨v1, vs1, d1, ds1, p1, q1, rfl, rfl, rfl, h1, r1⟩ := trodAll_cons r0
  obtain ⟨v2, vs2, d2, ds2, p2, q2, rfl, rfl, rfl, h2, r2⟩ := trodAll_cons r1
  obtain ⟨v3, vs3, d3, ds3, p3, q3, rfl, rfl, rfl, h3, r3⟩ := trodAll_cons r2
  obtain ⟨rfl, rfl, rfl⟩ := trodAll_nil r3
  obtain rfl : args = #[v0, v1, v2, v3] := by cases args; simp_all
  obtain ⟨rfl, rfl⟩ := trodVars_none hV
  obtain ⟨a0, len0, cap0, rfl⟩ := okWide_slice Try.underlying58 (hval 0 58 v0 rfl rfl)
  have k0 := h0
  have lt0 : ∀ x ∈ p0, x.block < W.heap.size := by obtain ⟨m, hm⟩ := k0; exact DataW.trod_lt m _ _ _ hm
  obtain ⟨t0, w0⟩ : ∃ ts, InRow 4 At.cells At.ok at0 W a0 len0 ts := by
    obtain ⟨fuel, hf⟩ := h0
    exact inrow_of 4 At.cells At.ok at0 58 42 Try.underlying58 cellsAt (by omega) At.cells_len (fun n cs x => at_of n cs x) hf
  obtain ⟨a1, len1, cap1, rfl⟩ := okWide_slice Try.underlying67 (hval 1 67 v1 rfl rfl)
  have k1 := h1
  have lt1 : ∀ x ∈ p1, x.block < W.heap.size := by obtain ⟨m, hm⟩ := k1; exact DataW.trod_lt m _ _ _ hm
  obtain ⟨t1, w1⟩ : ∃ ts, InRow 5 Pd.cells Pd.ok pd0 W a1 len1 ts := by
    obtain ⟨fuel, hf⟩ := h1
    exact inrow_of 5 Pd.cells Pd.ok pd0 67 46 Try.underlying67 cellsPd (by omega) Pd.cells_len (fun n cs x => pd_of n cs x) hf
  obtain ⟨cs2, rfl, hcs2⟩ := okWide_struct Try.underlying70 (hval 2 70 v2 rfl rfl)
  have k2 := h2
  have lt2 : ∀ x ∈ p2, x.block < W.heap.size := by obtain ⟨m, hm⟩ := k2; exact DataW.trod_lt m _ _ _ hm
  obtain ⟨fuel2, hf2⟩ := h2
  obtain ⟨a2, len2, cap2, t2, s2, rfl, w2, z2⟩ := ev_of hcs2 hf2
  obtain ⟨a3, rfl, rfl, rfl, w3⟩ := open_int Try.underlying3 (hval 3 3 v3 rfl rfl) h3
  clear hA0 hval0
  refine (walk a0 len0 cap0 t0 a1 len1 cap1 t1 a2 len2 cap2 t2 s2 a3 W w0 w1 w2 z2 w3).mono fun e W' ⟨he, bel⟩ => ?_
  subst he
  exact ⟨_, rfl, _, _, _, [], _, [], hW', trodAll_mk1 (shut_bool Try.underlying4 _), (trodAll_cons_mk (Below.trod laidOut (by kernel_rfl) (of_decide_eq_true (by kernel_rfl)) k0 bel lt0) (trodAll_cons_mk (Below.trod laidOut (by kernel_rfl) (of_decide_eq_true (by kernel_rfl)) k1 bel lt1) (trodAll_cons_mk (Below.trod laidOut (by kernel_rfl) (of_decide_eq_true (by kernel_rfl)) k2 bel lt2) (trodAll_cons_mk (shut_int Try.underlying3 w3) trodAll_mk0)))), rfl, bel.frame _, fun h => by cases h⟩

theorem over : Rows.dyadTakesRow.holds Try.pinned (OpenSpec.ofChange Rows.dyadTakesSpec) :=
  OpenClaim.holds_of_wide 7 Try.f7 rfl rfl rfl rfl rfl rfl rfl ⟨rfl, rfl, rfl, rfl, rfl⟩ rfl rfl rfl rfl rfl (by kernel_rfl) Try.func7 (by kernel_rfl)
    (of_decide_eq_true (by kernel_rfl)) (by unfold Func.isWrapper; first | (rw [if_pos (by decide +kernel)]; kernel_rfl) | (rw [if_neg (by decide +kernel)]; exact ⟨rfl, rfl⟩))
    (fun os started H enc _ => lifted os started H enc)

end Go.Proofs.Ythpcaaidimmafaa.dyadTakes

namespace Go.Proofs.Ythpcaaidimmafaa
/-- Proved: for every schema, filter, event and number of levels, DyadTakes answers true (an event that a filter takes has, for each predicate, a cell within its range). -/
theorem dyadTakes_holds : Rows.DyadTakesSaid := dyadTakes.over
#print axioms dyadTakes_holds
end Go.Proofs.Ythpcaaidimmafaa
