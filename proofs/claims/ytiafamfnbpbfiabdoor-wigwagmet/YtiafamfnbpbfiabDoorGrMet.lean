/- wigwagtop.WigwagMet, walked. -/
import Derived.Test.YtiafamfnbpbfiabDoorGrSch
import Derived.Test.YtiafamfnbpbfiabDoorGrCount
namespace Go.Proofs.YtiafamfnbpbfiabDoor
open Go.ChangeShapes Go.WideShapes Go.ChangeAt Go.RowKit
set_option linter.unusedVariables false

theorem ReachIs.elim {e : Ending} {w w' : World} {az : List At} {vs : List Vl} {m : Nat} {L : Int} (h : ReachIs e w w' az vs m L) : (∃ v : Value, e = .returned (.tuple #[v, .nilIface]) ∧ GoodR az vs m L ∧ StRow w w' v (reachs az vs L az.length)) ∨ (∃ t u, e = .returned (.tuple #[.slice none 0 0, .iface t u]) ∧ ¬ GoodR az vs m L) := h
theorem OfIs.elim {e : Ending} {w w' : World} {az : List At} {f : List Pd} {L : Int} (h : OfIs e w w' az f L) : (∃ (n b : Nat) (v : Value), L = n ∧ e = .returned (.tuple #[v, .nilIface]) ∧ GoodF az f L ∧ Best az f n b ∧ StRow w w' v (ofs az f L b)) ∨ (∃ t u, e = .returned (.tuple #[.slice none 0 0, .iface t u]) ∧ ¬ GoodF az f L) := h
theorem Best.uniq {az : List At} {f : List Pd} {n b c : Nat} (h : Best az f n b) (g : Best az f n c) : b = c := by
  rcases Nat.lt_trichotomy b c with h1 | h1 | h1
  · have := g.fst b h1; have := h.all c g.lt; omega
  · exact h1
  · have := h.fst c h1; have := g.all b h.lt; omega
/-- A schema, a filter and an event of the call's own. -/
structure Mv (w W : World) (sl gl ul : Value) (L : List At) (G : List Pd) (V : List Vl) (eb : Nat) (pay : ByteArray) : Prop where
  f : Fm w W sl gl L G
  vl : VlIn W ul V
  e0 : W.cell? ⟨eb, 0, none⟩ = some ul
  e1 : W.cell? ⟨eb, 1, none⟩ = some (.string pay)
theorem Mv.below {w W W' : World} {sl gl ul : Value} {L : List At} {G : List Pd} {V : List Vl} {eb : Nat} {pay : ByteArray} (h : Mv w W sl gl ul L G V eb pay) (b : Below W.heap.size W W') : Mv w W' sl gl ul L G V eb pay :=
  ⟨h.f.below b, h.vl.below b, cell_grown h.e0 b, cell_grown h.e1 b⟩

set_option maxRecDepth 100000 in
set_option maxHeartbeats 8000000 in
theorem met_walk (a0 : Option Addr) (len0 cap0 : Nat) (t0 : List At) (a1 : Option Addr) (len1 cap1 : Nat) (t1 : List Pd) (a2 : Option Addr) (len2 cap2 : Nat) (t2 : List Vl) (s2 : ByteArray) (a3 : Int) (w : World) (hE : GEnv w) (w0 : InRow 4 At.cells At.ok at0 w a0 len0 t0) (w1 : InRow 5 Pd.cells Pd.ok pd0 w a1 len1 t1) (w2 : InRow 2 Vl.cells Vl.ok vl0 w a2 len2 t2) (z2 : s2.size ≤ maxLen) :
    Calls Tryd.prog 4 #[.slice a0 len0 cap0, .slice a1 len1 cap1, .agg #[.slice a2 len2 cap2, .string s2], .int .i64 a3] w fun e w' => e = .returned (.bool true) ∧ Below w.heap.size w w' := by
  obtain ⟨L, hL⟩ : ∃ L, L = (t0.take 6).map cutA := ⟨_, rfl⟩
  obtain ⟨G, hG⟩ : ∃ G, G = (t1.take 6).map cutP := ⟨_, rfl⟩
  obtain ⟨V, hV⟩ : ∃ V, V = (t2.take 6).map cutV := ⟨_, rfl⟩
  obtain ⟨pay, hpay⟩ : ∃ pay, pay = cut s2 210 := ⟨_, rfl⟩
  have lL : L.length ≤ 6 := by rw [hL]; simp; omega
  have lG : G.length ≤ 6 := by rw [hG]; simp; omega
  have lV : V.length ≤ 6 := by rw [hV]; simp; omega
  have SL : Hid (∀ i, i < L.length → (L.getD i at0).name.size ≤ 20) := by rw [hL]; exact gz_cutA t0
  have SG : Hid (∀ i, i < G.length → (G.getD i pd0).str.size ≤ 50 ∧ (G.getD i pd0).name.size ≤ 20) := by rw [hG]; exact gz_cutP t1
  have SV : Hid (∀ i, i < V.length → (V.getD i vl0).str.size ≤ 50) := by rw [hV]; exact gz_cutV t2
  have SP : Hid (pay.size ≤ maxLen) := by
    have := cut_size s2 210
    show pay.size ≤ maxLen
    rw [hpay]; unfold maxLen; omega
  have hc1 := attrs_any a0 len0 cap0 t0 (w.alloc (.cells #[.slice a2 len2 cap2, .string s2] 47)) (w0.below (Nat.le_refl _) (below1 _ _))
  rw [← hL] at hc1
  have HV : Hid (V = (t2.take 6).map cutV) := hV
  have HY : Hid (pay = cut s2 210) := hpay
  have HG : Hid (G = (t1.take 6).map cutP) := hG
  have HW1 : Hid (InRow 5 Pd.cells Pd.ok pd0 w a1 len1 t1 ∧ InRow 2 Vl.cells Vl.ok vl0 w a2 len2 t2) := ⟨w1, w2⟩
  clear hL hV hpay hG w0 w1 w2
  go_enter Tryd.func4, Tryd.ntmps4
  go_wp2_with fail
  refine hc1.mono ?_
  rintro e W1 ⟨v1, v2, rfl, R1⟩
  clear hc1
  have A1 : Hid (AtIn W1 v1 L) := AtIn.ofOwn R1.r1
  have bb := R1.bel
  have B1 : Hid (Below w.heap.size w W1) := (below1 _ _).trans (bb.mono (by simp))
  have y0 : W1.cell? ⟨w.heap.size, 0, none⟩ = some (.slice a2 len2 cap2) := (bb.cell (p := ⟨w.heap.size, 0, none⟩) (by simp)).trans (by simp)
  have y1 : W1.cell? ⟨w.heap.size, 1, none⟩ = some (.string s2) := (bb.cell (p := ⟨w.heap.size, 1, none⟩) (by simp)).trans (by simp)
  obtain ⟨av, cv, hv1⟩ := own_shape R1.r1
  subst hv1
  clear R1 bb
  have hc2 := preds_any a1 len1 cap1 t1 W1 (InRow.below HW1.out.1 (Nat.le_refl _) B1.out)
  rw [← HG.out] at hc2
  go_wp2_with fail
  refine hc2.mono ?_
  rintro e W2 ⟨p1, p2, rfl, R2⟩
  clear hc2
  have b2 := R2.bel
  have M2 : Hid (Fm w W2 (.slice av L.length cv) p1 L G) := ⟨A1.out.below b2, PdIn.ofOwn R2.r1, (hE.below B1.out).below b2, B1.out.trans (b2.mono B1.out.size)⟩
  have x0 := cell_grown y0 b2
  have x1 := cell_grown y1 b2
  have xl : w.heap.size < W2.heap.size := cell_block x0
  obtain ⟨ag, cg, hg1⟩ := own_shape R2.r1
  subst hg1
  clear R2 b2 A1 B1 y0 y1 hE
  have hc3 := ev_any a2 len2 cap2 s2 t2 W2 (InRow.below HW1.out.2 (Nat.le_refl _) M2.out.bel) z2
  rw [← HV.out, ← HY.out] at hc3
  go_wp2_with fail
  refine hc3.mono ?_
  rintro e W3 ⟨u1, u2, rfl, r1, _, _, b3⟩
  clear hc3
  obtain ⟨au, cu, hu1⟩ := own_shape r1
  subst hu1
  obtain ⟨W4, hW4⟩ : ∃ W4, W4 = W3.alloc (.cells #[.slice au V.length cu, .string pay] 47) := ⟨_, rfl⟩
  have b4 : Below W3.heap.size W3 W4 := by rw [hW4]; exact below1 _ _
  have M4 : Hid (Mv w W4 (.slice av L.length cv) (.slice ag G.length cg) (.slice au V.length cu) L G V W3.heap.size pay) := ⟨(M2.out.below b3).below b4, (VlIn.ofOwn r1).below b4, by rw [hW4]; simp, by rw [hW4]; simp⟩
  clear r1 b3 b4 x0 x1 xl M2 HW1
  have HCV : Hid _ := cover_yes 1 6 3 W4 (by decide) (by decide) (by decide)
  rw [cover163] at HCV
  go_wp2_with fail
  rw [← hW4]
  clear hW4
  refine Calls.mono HCV.out ?_
  rintro e W5 ⟨v5, rfl, r5⟩
  obtain ⟨a5, c5, rfl, _⟩ := r5.isIn.shape
  have M5 : Hid (Mv w W5 (.slice av L.length cv) (.slice ag G.length cg) (.slice au V.length cu) L G V W3.heap.size pay) := M4.out.below r5.bel
  clear r5 M4 HCV
  simp only [List.length_cons, List.length_nil]
  generalize W3.heap.size = eb at *
  go_wp2_with fail
  refine Calls.mono (choose_of _ _ L G a3 W5 M5.out.f.at_ M5.out.f.pd (by omega) (by omega) (fun i hi => Nat.le_trans (SL.out i hi) (by unfold maxLen; omega)) (fun i hi => Nat.le_trans (SG.out i hi).1 (by omega))) ?_
  rintro e W6 ⟨hCh, b6⟩
  have M6 : Hid (Mv w W6 (.slice av L.length cv) (.slice ag G.length cg) (.slice au V.length cu) L G V eb pay) := M5.out.below b6
  clear b6 M5
  have k0 := M6.out.e0
  have k1 := M6.out.e1
  have kl := cell_block k0
  have HRE : Hid _ := reach_of _ _ L V pay a3 W6 M6.out.f.env M6.out.f.at_ M6.out.vl (by omega) (by omega) SP.out (fun i hi => Nat.le_trans (SL.out i hi) (by omega)) (fun i hi => Nat.le_trans (SV.out i hi) (by omega))
  rcases hCh.elim with ⟨n, b, rfl, rfl, hGd, hB⟩ | ⟨t, x, rfl, hno⟩
  · have HGF : Hid (GoodF L G n) := hGd
    have HBE : Hid (Best L G n b) := hB
    have hbl : b < G.length := hB.lt
    have hn : n ≤ 8 := by have := hGd.2.1; omega
    have zb : ¬ ((b : Int) = -1) := by omega
    clear hCh hGd hB
    go_wp2_with fail
    refine Calls.mono HRE.out ?_
    rintro e W7 ⟨hRe, b7⟩
    have M7 : Hid (Mv w W7 (.slice av L.length cv) (.slice ag G.length cg) (.slice au V.length cu) L G V eb pay) := M6.out.below b7
    rcases hRe.elim with ⟨v7, rfl, hGR, r7⟩ | ⟨t, x, rfl, hno⟩
    · have HGR : Hid (GoodR L V pay.size n) := hGR
      have HT7 : Hid (StIn W7 v7 (reachs L V n L.length)) := r7.isIn
      obtain ⟨a7, c7, hv7⟩ := r7.shape
      subst hv7
      clear hRe hGR r7 b7 M6 HRE k0 k1 kl
      go_wp2_with fail
      refine Calls.mono (of_of _ _ L G n W7 M7.out.f.env M7.out.f.at_ M7.out.f.pd (by omega) (by omega) (fun i hi => Nat.le_trans (SL.out i hi) (by unfold maxLen; omega)) (fun i hi => ⟨Nat.le_trans (SG.out i hi).1 (by omega), Nat.le_trans (SG.out i hi).2 (by omega)⟩)) ?_
      rintro e W8 ⟨hOf, b8⟩
      have M8 : Hid (Mv w W8 (.slice av L.length cv) (.slice ag G.length cg) (.slice au V.length cu) L G V eb pay) := M7.out.below b8
      have HT8 : Hid (StIn W8 (.slice a7 (reachs L V n L.length).length c7) (reachs L V n L.length)) := HT7.out.below b8
      rcases hOf.elim with ⟨n', b', v8, hnn, rfl, _, hB', r8⟩ | ⟨t, x, rfl, hno⟩
      · obtain rfl : n = n' := by omega
        obtain rfl := HBE.out.uniq hB'
        have HO8 : Hid (StIn W8 v8 (ofs L G n b)) := r8.isIn
        obtain ⟨a8, c8, hv8⟩ := r8.shape
        subst hv8
        clear hOf hnn hB' r8 b8 M7 HT7
        obtain ⟨_, k, hk, hpk⟩ := HGF.out.2.2.2.2.2 b hbl
        have hkl : k < L.length := hk.1
        have hvl : V.length = L.length := HGR.out.2.2.2.1
        have hkv : k < V.length := by omega
        have HCNT := met_count (vs := V) hn HGF.out.2.2.1 hk hpk
        have hlo : (ofs L G n b).length ≤ 1000 := by unfold ofs; rw [List.length_map]; exact cover_len1000 _ _ _
        have hlt' : (reachs L V n L.length).length ≤ 54 := Nat.le_trans (reachs_len _ _ _ _) (by omega)
        obtain ⟨ga, gp, ca', cg', ι0, F0', _, e1, e2, FR⟩ := fam_r M8.out.f b k hbl hkl
        simp at e1 e2
        obtain ⟨rfl, rfl⟩ := e1
        obtain ⟨rfl, rfl⟩ := e2
        clear FR F0'
        obtain ⟨gv, hgv0, hgv, hcv', _, _⟩ := M8.out.vl.row k hkv
        subst hgv0
        obtain ⟨gp', hgp0, hgp, hcgp, c0, c1, c2, c3, c4⟩ := M8.out.f.pd.row b hbl
        simp at hgp0
        subst hgp0
        have HFK : Hid (FindAt L (G.getD b pd0).name k) := hk
        have HRG : Hid (rg L (G.getD b pd0) n = rangeOf (L.getD k at0) (G.getD b pd0) n) := (by unfold rg; rw [posA_is hk] : rg L (G.getD b pd0) n = rangeOf (L.getD k at0) (G.getD b pd0) n)
        have HR : Hid _ := fun W => range_any (L.getD k at0) (G.getD b pd0) n W (Nat.le_trans (SG.out b hbl).1 (by omega))
        rw [← HRG.out] at HR
        have HCL : Hid _ := fun W => cell_any (L.getD k at0) (V.getD k vl0) n W (Nat.le_trans (SV.out k hkv) (by unfold maxLen; omega))
        generalize (rg L (G.getD b pd0) n).1 = r1 at *
        generalize (rg L (G.getD b pd0) n).2 = r2 at *
        generalize cellOf (L.getD k at0) (V.getD k vl0) n = cc at *
        generalize reachs L V n L.length = tos at *
        generalize ofs L G n b = ofl at *
        have HCN : Hid (cntS ofl tos = if r1 ≤ cc ∧ cc ≤ r2 then 1 else 0) := HCNT
        have HPN : Hid _ := find_any _ L (G.getD b pd0).name W8 M8.out.f.at_ (by omega)
        clear hk hpk HCNT HRG
        obtain ⟨p, hp⟩ : ∃ p, p = G.getD b pd0 := ⟨_, rfl⟩
        rw [← hp] at c0 c1 c2 c3 c4 HR HFK HPN
        have HPE : Hid (p = G.getD b pd0) := hp
        clear hp
        have z1 : ¬ ((b : Int) < 0) := by omega
        have z2 : ¬ ((G.length : Int) ≤ (b : Int)) := by omega
        have z3 : decide ((b : Int) < 0) = false := decide_eq_false z1
        have z4 : decide (G.length ≤ b) = false := decide_eq_false (by omega)
        go_wp2_with fail
        refine Calls.mono HPN.out ?_
        rintro e W9 ⟨⟨r, rfl, hfr⟩, b9⟩
        obtain rfl : r = k := found_at hfr HFK.out
        have M9 : Hid (Mv w W9 (.slice (some ⟨ga, 0, none⟩) L.length cv) (.slice (some ⟨gp, 0, none⟩) G.length cg) (.slice (some ⟨gv, 0, none⟩) V.length cu) L G V eb pay) := M8.out.below b9
        have HS9 : Hid (StIn W9 (.slice a7 tos.length c7) tos ∧ StIn W9 (.slice a8 ofl.length c8) ofl) := ⟨HT8.out.below b9, HO8.out.below b9⟩
        clear b9 hfr HPN M8 HT8 HO8 c0 c1 c2 c3 c4 HFK z1 z2 z3 z4
        obtain ⟨ga', gp', ca', cg', ι, F, _, e1, e2, FR⟩ := fam_r M9.out.f b k hbl hkl
        simp at e1 e2
        obtain ⟨rfl, rfl⟩ := e1
        obtain ⟨rfl, rfl⟩ := e2
        obtain ⟨f0, f1, f2, f3, q0, q1, q2, q3, q4, hai, hst, hbe, hcl⟩ := FR
        rw [← HPE.out] at q0 q1 q2 q3 q4
        have HFF : Hid ((∃ j, { W9 with drawn := W9.drawn + 1 } = F j) ∧ (∀ j, Below W9.heap.size W9 (F j)) ∧ (∀ j W', Below W9.heap.size (F j) W' → ∃ j', W' = F j')) := ⟨hst, hbe, hcl⟩
        obtain ⟨x, hx⟩ : ∃ x, x = L.getD k at0 := ⟨_, rfl⟩
        have HXE : Hid (x = L.getD k at0) := hx
        rw [← hx] at f0 f1 f2 f3 HR HCL
        clear hst hbe hcl hai hx
        go_wp2_with fail
        have ix : (0 : Int) ≤ (k : Int) ∧ (k : Int) < (L.length : Int) := by omega
        have iy : (0 : Int) ≤ (b : Int) ∧ (b : Int) < (G.length : Int) := by omega
        refine wp_region_fam F HFF.out.1 (by kernel_rfl) (by kernel_rfl) ?_
        repeat (go_big_quiet_step ((go_at_call 9; refine Calls.mono (HR.out _) ?_; rintro e' w' ⟨hs, hb⟩; exact ⟨hs, HFF.out.2.2 _ _ (hb.mono (HFF.out.2.1 _).size)⟩)))
        refine wpQuiet_nil ?_
        rintro _ ⟨j, rfl⟩
        have b10 := HFF.out.2.1 j
        have M10 : Hid (Mv w (F j) (.slice (some ⟨ga, 0, none⟩) L.length cv) (.slice (some ⟨gp, 0, none⟩) G.length cg) (.slice (some ⟨gv, 0, none⟩) V.length cu) L G V eb pay) := M9.out.below b10
        have HS10 : Hid (StIn (F j) (.slice a7 tos.length c7) tos ∧ StIn (F j) (.slice a8 ofl.length c8) ofl) := ⟨HS9.out.1.below b10, HS9.out.2.below b10⟩
        generalize F j = WA at *
        clear f0 f1 f2 f3 q0 q1 q2 q3 q4 HFF ix iy b10 M9 HS9 HR
        obtain ⟨ga', hga0, hga, hca, k0, k1, k2, k3⟩ := M10.out.f.at_.row k hkl
        simp at hga0
        subst hga0
        obtain ⟨gv', hgv0, hgv2, hcv2, n0, n1⟩ := M10.out.vl.row k hkv
        simp at hgv0
        subst hgv0
        rw [← HXE.out] at k0 k1 k2 k3
        obtain ⟨y, hy⟩ : ∃ y, y = V.getD k vl0 := ⟨_, rfl⟩
        rw [← hy] at n0 n1 HCL
        have t0' := M10.out.e0
        obtain ⟨ι2, F, _, hF0, hFb, hFc⟩ := grown_fam WA
        have F0 : ∀ i, (F i).cell? ⟨ga, k * 4, none⟩ = some (.string x.name) := fun i => cell_grown k0 (hFb i)
        have F1 : ∀ i, (F i).cell? ⟨ga, k * 4 + 1, none⟩ = some (.int .i64 x.kind) := fun i => cell_grown k1 (hFb i)
        have F2 : ∀ i, (F i).cell? ⟨ga, k * 4 + 2, none⟩ = some (.int .i64 x.mn) := fun i => cell_grown k2 (hFb i)
        have F3 : ∀ i, (F i).cell? ⟨ga, k * 4 + 3, none⟩ = some (.int .i64 x.mx) := fun i => cell_grown k3 (hFb i)
        have G0 : ∀ i, (F i).cell? ⟨gv, k * 2, none⟩ = some (.int .i64 y.num) := fun i => cell_grown n0 (hFb i)
        have G1 : ∀ i, (F i).cell? ⟨gv, k * 2 + 1, none⟩ = some (.string y.str) := fun i => cell_grown n1 (hFb i)
        have G2 : ∀ i, (F i).cell? ⟨eb, 0, none⟩ = some (.slice (some ⟨gv, 0, none⟩) V.length cu) := fun i => cell_grown t0' (hFb i)
        have HFF : Hid ((∃ j, { WA with drawn := WA.drawn + 1 } = F j) ∧ (∀ j, Below WA.heap.size WA (F j)) ∧ (∀ j W', Below WA.heap.size (F j) W' → ∃ j', W' = F j')) := ⟨hF0, hFb, hFc⟩
        clear hF0 hFb hFc k0 k1 k2 k3 n0 n1 t0' hy
        go_wp2_with fail
        have ix : (0 : Int) ≤ (k : Int) ∧ (k : Int) < (L.length : Int) := by omega
        have iy : (0 : Int) ≤ (k : Int) ∧ (k : Int) < (V.length : Int) := by omega
        refine wp_region_fam F HFF.out.1 (by kernel_rfl) (by kernel_rfl) ?_
        repeat (go_big_quiet_step ((go_at_call 15; refine Calls.mono (HCL.out _) ?_; rintro e' w' ⟨hs, hb⟩; exact ⟨hs, HFF.out.2.2 _ _ (hb.mono (HFF.out.2.1 _).size)⟩)))
        refine wpQuiet_nil ?_
        rintro _ ⟨j, rfl⟩
        have b11 := HFF.out.2.1 j
        have HBF : Hid (Below w.heap.size w (F j)) := (M10.out.below b11).f.bel
        have HS11 : Hid (StIn (F j) (.slice a7 tos.length c7) tos ∧ StIn (F j) (.slice a8 ofl.length c8) ofl) := ⟨HS10.out.1.below b11, HS10.out.2.below b11⟩
        generalize F j = WB at *
        clear F0 F1 F2 F3 G0 G1 G2 HFF ix iy b11 M10 HS10 HCL
        obtain ⟨at', ct', et, hts⟩ := HS11.out.1.shape
        obtain ⟨ao', co', eo, hos⟩ := HS11.out.2.shape
        simp at et eo
        obtain ⟨rfl, rfl⟩ := et
        obtain ⟨rfl, rfl⟩ := eo
        have HTS : Hid _ := hts
        have HOS : Hid _ := hos
        have HZ0 : Hid (cntS (ofl.take 0) tos = 0) := (rfl : cntS (ofl.take 0) tos = 0)
        clear hts hos HS11
        go_wp2
        go_loopg [25, 126] ofl.length (fun kx s25 s126 wr => ∃ i : Nat, s126 = .int .i64 i ∧ i ≤ ofl.length ∧ kx = ofl.length - i ∧ s25 = .int .i64 ((cntS (ofl.take i) tos : Nat) : Int) ∧ WB = wr)
        case atStart => exact ⟨0, rfl, Nat.zero_le _, rfl, rfl, rfl⟩
        case round =>
          obtain ⟨i, rfl, hi, rfl, rfl, rfl⟩ := hrel
          have hcb : cntS (ofl.take i) tos ≤ 54000 := by
            refine Nat.le_trans (cntS_le _ _) ?_
            exact Nat.le_trans (Nat.mul_le_mul (show (ofl.take i).length ≤ 1000 by simp; omega) hlt') (by omega)
          by_cases hio : i < ofl.length
          · obtain ⟨go, rfl, hgo, hcao, hjo⟩ := HOS.out (by omega)
            have d0 := hjo i hio
            have HCT : Hid (cntS (ofl.take (i + 1)) tos = cntS (ofl.take i) tos + nS tos (ofl.getD i ByteArray.empty)) := cntS_take ofl tos i hio
            generalize ofl.getD i ByteArray.empty = nm at d0 HCT
            generalize cntS (ofl.take i) tos = c at *
            clear hjo
            go_wp2
            go_loopg [25, 132] tos.length (fun kx s25 s132 wr => ∃ j : Nat, s132 = .int .i64 j ∧ j ≤ tos.length ∧ kx = tos.length - j ∧ s25 = .int .i64 ((c + nS (tos.take j) nm : Nat) : Int) ∧ WB = wr)
            case atStart => exact ⟨0, rfl, Nat.zero_le _, rfl, by simp [nS], rfl⟩
            case round =>
              obtain ⟨j, rfl, hj, rfl, rfl, rfl⟩ := hrel
              have hcj : nS (tos.take j) nm ≤ 54 := Nat.le_trans (nS_le _ _) (by simp; omega)
              by_cases hjt : j < tos.length
              · obtain ⟨gt, rfl, hgt, hcat, hjt'⟩ := HTS.out (by omega)
                have d1 := hjt' j hjt
                have HCT2 : Hid (nS (tos.take (j + 1)) nm = nS (tos.take j) nm + if nm = tos.getD j ByteArray.empty then 1 else 0) := nS_take tos nm j hjt
                generalize tos.getD j ByteArray.empty = nt at d1 HCT2
                generalize nS (tos.take j) nm = c2 at *
                clear hjt'
                by_cases hxy : nm = nt
                · subst hxy
                  have HE : Hid (nS (tos.take (j + 1)) nm = c2 + 1) := (by rw [HCT2.out]; simp : nS (tos.take (j + 1)) nm = c2 + 1)
                  go_wp2
                  go_roundg (tos.length - (j + 1))
                  case measure => omega
                  case rel => exact ⟨j + 1, by go_num, by omega, rfl, by rw [HE.out]; go_num, rfl⟩
                · have HE : Hid (nS (tos.take (j + 1)) nm = c2) := (by rw [HCT2.out, if_neg hxy]; rfl : nS (tos.take (j + 1)) nm = c2)
                  have hx1 : nm.toList ≠ nt.toList := fun h => hxy (toList_inj.1 h)
                  have hx2 : (nm.toList == nt.toList) = false := by simpa using hx1
                  go_wp2
                  go_roundg (tos.length - (j + 1))
                  case measure => omega
                  case rel => exact ⟨j + 1, by go_num, by omega, rfl, by rw [HE.out], rfl⟩
              · obtain rfl : tos.length = j := by omega
                have HE : Hid (c + nS (tos.take tos.length) nm = cntS (ofl.take (i + 1)) tos) := (by rw [HCT.out, List.take_length] : c + nS (tos.take tos.length) nm = cntS (ofl.take (i + 1)) tos)
                rw [HE.out]
                go_wp2
                go_roundg (ofl.length - (i + 1))
                case measure => omega
                case rel => exact ⟨i + 1, by go_num, by omega, rfl, by simp, rfl⟩
          · obtain rfl : ofl.length = i := by omega
            have hct : cntS (ofl.take ofl.length) tos = if r1 ≤ cc ∧ cc ≤ r2 then 1 else 0 := by rw [List.take_length]; exact HCN.out
            by_cases h1 : r1 ≤ cc
            · by_cases h2 : cc ≤ r2
              · rw [if_pos ⟨h1, h2⟩] at hct
                rw [hct]
                clear hct
                go_wp2
                go_ret
                exact ⟨rfl, HBF.out⟩
              · rw [if_neg (fun h => h2 h.2)] at hct
                rw [hct]
                clear hct
                go_wp2
                go_ret
                exact ⟨rfl, HBF.out⟩
            · rw [if_neg (fun h => h1 h.1)] at hct
              rw [hct]
              clear hct
              go_wp2
              go_ret
              exact ⟨rfl, HBF.out⟩
      · exact absurd HGF.out hno
    · clear hRe hno b7
      go_wp2
      go_ret
      exact ⟨ret_b (by simp), M7.out.f.bel⟩
  · clear hCh hno
    go_wp2_with fail
    refine Calls.mono HRE.out ?_
    rintro e W7 ⟨hRe, b7⟩
    have M7 : Hid (Mv w W7 (.slice av L.length cv) (.slice ag G.length cg) (.slice au V.length cu) L G V eb pay) := M6.out.below b7
    rcases hRe.elim with ⟨v7, rfl, _, _⟩ | ⟨t, x, rfl, _⟩
    all_goals
      clear hRe b7
      go_wp2
      go_ret
      exact ⟨ret_b (by simp), M7.out.f.bel⟩
end Go.Proofs.YtiafamfnbpbfiabDoor
