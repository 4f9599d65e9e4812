/- wigwaglaw08.GroupOnce, walked. -/
import Derived.Test.YtiafamfnbpbfiaaDoorGrSch
import Derived.Test.YtiafamfnbpbfiaaDoorGrOnceM
import Derived.Test.YtiafamfnbpbfiaaDoorValMatch
namespace Go.Proofs.YtiafamfnbpbfiaaDoor
open Go.ChangeShapes Go.WideShapes Go.ChangeAt Go.RowKit
set_option linter.unusedVariables false

theorem ReachIs.elim {e : Ending} {w w' : World} {az : List At} {vs : List Vl} {m : Nat} {L : Int} (h : ReachIs e w w' az vs m L) : (∃ v : Value, e = .returned (.tuple #[v, .nilIface]) ∧ GoodR az vs m L ∧ StRow w w' v (reachs az vs L az.length)) ∨ (∃ t u, e = .returned (.tuple #[.slice none 0 0, .iface t u]) ∧ ¬ GoodR az vs m L) := h
theorem OfIs.elim {e : Ending} {w w' : World} {az : List At} {f : List Pd} {L : Int} (h : OfIs e w w' az f L) : (∃ (n b : Nat) (v : Value), L = n ∧ e = .returned (.tuple #[v, .nilIface]) ∧ GoodF az f L ∧ Best az f n b ∧ StRow w w' v (ofs az f L b)) ∨ (∃ t u, e = .returned (.tuple #[.slice none 0 0, .iface t u]) ∧ ¬ GoodF az f L) := h
theorem Best.uniq {az : List At} {f : List Pd} {n b c : Nat} (h : Best az f n b) (g : Best az f n c) : b = c := by
  rcases Nat.lt_trichotomy b c with h1 | h1 | h1
  · have := g.fst b h1; have := h.all c g.lt; omega
  · exact h1
  · have := h.fst c h1; have := g.all b h.lt; omega
/-- A schema, a filter and an event of the call's own. -/
structure Mv (w W : World) (sl gl ul : Value) (L : List At) (G : List Pd) (V : List Vl) (eb : Nat) (pay : ByteArray) : Prop where
  f : Fm w W sl gl L G
  vl : VlIn W ul V
  e0 : W.cell? ⟨eb, 0, none⟩ = some ul
  e1 : W.cell? ⟨eb, 1, none⟩ = some (.string pay)
theorem Mv.below {w W W' : World} {sl gl ul : Value} {L : List At} {G : List Pd} {V : List Vl} {eb : Nat} {pay : ByteArray} (h : Mv w W sl gl ul L G V eb pay) (b : Below W.heap.size W W') : Mv w W' sl gl ul L G V eb pay :=
  ⟨h.f.below b, h.vl.below b, cell_grown h.e0 b, cell_grown h.e1 b⟩

set_option maxRecDepth 100000 in
set_option maxHeartbeats 8000000 in
theorem once_walk (a0 : Option Addr) (len0 cap0 : Nat) (t0 : List At) (a1 : Option Addr) (len1 cap1 : Nat) (t1 : List Pd) (a2 : Option Addr) (len2 cap2 : Nat) (t2 : List Vl) (s2 : ByteArray) (a3 : Int) (w : World) (hE : GEnv w) (w0 : InRow 4 At.cells At.ok at0 w a0 len0 t0) (w1 : InRow 5 Pd.cells Pd.ok pd0 w a1 len1 t1) (w2 : InRow 2 Vl.cells Vl.ok vl0 w a2 len2 t2) (z2 : s2.size ≤ maxLen) :
    Calls Tryd.prog 3 #[.slice a0 len0 cap0, .slice a1 len1 cap1, .agg #[.slice a2 len2 cap2, .string s2], .int .i64 a3] w fun e w' => e = .returned (.bool true) ∧ Below w.heap.size w w' := by
  obtain ⟨L, hL⟩ : ∃ L, L = (t0.take 6).map cutA := ⟨_, rfl⟩
  obtain ⟨G, hG⟩ : ∃ G, G = (t1.take 6).map cutP := ⟨_, rfl⟩
  obtain ⟨V, hV⟩ : ∃ V, V = (t2.take 6).map cutV := ⟨_, rfl⟩
  obtain ⟨pay, hpay⟩ : ∃ pay, pay = cut s2 210 := ⟨_, rfl⟩
  have lL : L.length ≤ 6 := by rw [hL]; simp; omega
  have lG : G.length ≤ 6 := by rw [hG]; simp; omega
  have lV : V.length ≤ 6 := by rw [hV]; simp; omega
  have SL : Hid (∀ i, i < L.length → (L.getD i at0).name.size ≤ 20) := by rw [hL]; exact gz_cutA t0
  have SG : Hid (∀ i, i < G.length → (G.getD i pd0).str.size ≤ 50 ∧ (G.getD i pd0).name.size ≤ 20) := by rw [hG]; exact gz_cutP t1
  have SV : Hid (∀ i, i < V.length → (V.getD i vl0).str.size ≤ 50) := by rw [hV]; exact gz_cutV t2
  have SP : Hid (pay.size ≤ maxLen) := by
    have := cut_size s2 210
    show pay.size ≤ maxLen
    rw [hpay]; unfold maxLen; omega
  have hc1 := attrs_any a0 len0 cap0 t0 (w.alloc (.cells #[.slice a2 len2 cap2, .string s2] 28)) (w0.below (Nat.le_refl _) (below1 _ _))
  rw [← hL] at hc1
  have HV : Hid (V = (t2.take 6).map cutV) := hV
  have HY : Hid (pay = cut s2 210) := hpay
  have HG : Hid (G = (t1.take 6).map cutP) := hG
  have HW1 : Hid (InRow 5 Pd.cells Pd.ok pd0 w a1 len1 t1 ∧ InRow 2 Vl.cells Vl.ok vl0 w a2 len2 t2) := ⟨w1, w2⟩
  clear hL hV hpay hG w0 w1 w2
  go_enter Tryd.func3, Tryd.ntmps3
  go_wp2_with fail
  refine hc1.mono ?_
  rintro e W1 ⟨v1, v2, rfl, R1⟩
  clear hc1
  have A1 : Hid (AtIn W1 v1 L) := AtIn.ofOwn R1.r1
  have bb := R1.bel
  have B1 : Hid (Below w.heap.size w W1) := (below1 _ _).trans (bb.mono (by simp))
  have y0 : W1.cell? ⟨w.heap.size, 0, none⟩ = some (.slice a2 len2 cap2) := (bb.cell (p := ⟨w.heap.size, 0, none⟩) (by simp)).trans (by simp)
  have y1 : W1.cell? ⟨w.heap.size, 1, none⟩ = some (.string s2) := (bb.cell (p := ⟨w.heap.size, 1, none⟩) (by simp)).trans (by simp)
  obtain ⟨av, cv, hv1⟩ := own_shape R1.r1
  subst hv1
  clear R1 bb
  have hc2 := preds_any a1 len1 cap1 t1 W1 (InRow.below HW1.out.1 (Nat.le_refl _) B1.out)
  rw [← HG.out] at hc2
  go_wp2_with fail
  refine hc2.mono ?_
  rintro e W2 ⟨p1, p2, rfl, R2⟩
  clear hc2
  have b2 := R2.bel
  have M2 : Hid (Fm w W2 (.slice av L.length cv) p1 L G) := ⟨A1.out.below b2, PdIn.ofOwn R2.r1, (hE.below B1.out).below b2, B1.out.trans (b2.mono B1.out.size)⟩
  have x0 := cell_grown y0 b2
  have x1 := cell_grown y1 b2
  have xl : w.heap.size < W2.heap.size := cell_block x0
  obtain ⟨ag, cg, hg1⟩ := own_shape R2.r1
  subst hg1
  clear R2 b2 A1 B1 y0 y1 hE
  have hc3 := ev_any a2 len2 cap2 s2 t2 W2 (InRow.below HW1.out.2 (Nat.le_refl _) M2.out.bel) z2
  rw [← HV.out, ← HY.out] at hc3
  go_wp2_with fail
  refine hc3.mono ?_
  rintro e W3 ⟨u1, u2, rfl, r1, _, _, b3⟩
  clear hc3
  obtain ⟨au, cu, hu1⟩ := own_shape r1
  subst hu1
  obtain ⟨W4, hW4⟩ : ∃ W4, W4 = W3.alloc (.cells #[.slice au V.length cu, .string pay] 28) := ⟨_, rfl⟩
  have b4 : Below W3.heap.size W3 W4 := by rw [hW4]; exact below1 _ _
  have M4 : Hid (Mv w W4 (.slice av L.length cv) (.slice ag G.length cg) (.slice au V.length cu) L G V W3.heap.size pay) := ⟨(M2.out.below b3).below b4, (VlIn.ofOwn r1).below b4, by rw [hW4]; simp, by rw [hW4]; simp⟩
  clear r1 b3 b4 x0 x1 xl M2 HW1
  have k0 := M4.out.e0
  have k1 := M4.out.e1
  have kl := cell_block k0
  have HRE : Hid _ := reach_of _ _ L V pay a3 W4 M4.out.f.env M4.out.f.at_ M4.out.vl (by omega) (by omega) SP.out (fun i hi => Nat.le_trans (SL.out i hi) (by omega)) (fun i hi => Nat.le_trans (SV.out i hi) (by omega))
  go_wp2_with fail
  rw [← hW4]
  clear hW4
  refine Calls.mono HRE.out ?_
  rintro e W7 ⟨hRe, b7⟩
  have M7 : Hid (Mv w W7 (.slice av L.length cv) (.slice ag G.length cg) (.slice au V.length cu) L G V W3.heap.size pay) := M4.out.below b7
  generalize W3.heap.size = eb at *
  rcases hRe.elim with ⟨v7, rfl, hGR, r7⟩ | ⟨t, x, rfl, hno⟩
  · have hn9 : 0 ≤ a3 ∧ a3 ≤ 8 := ⟨hGR.1, hGR.2.1⟩
    obtain ⟨n, rfl⟩ : ∃ n : Nat, a3 = n := ⟨a3.toNat, by omega⟩
    have hn : n ≤ 8 := by omega
    have HGR : Hid (SchemaOk L ∧ EventOk L V pay.size) := hGR.2.2
    have HT7 : Hid (StIn W7 v7 (reachs L V n L.length)) := r7.isIn
    obtain ⟨a7, c7, hv7⟩ := r7.shape
    subst hv7
    have hfull := reachs_full hn hGR.2.2.1 hGR.2.2.2 L.length (Nat.le_refl _)
    have HND : Hid (List.Nodup (reachs L V n L.length)) := (reachs_nodup hn hGR.2.2.1 hGR.2.2.2 L.length (Nat.le_refl _)).1
    have HOC : Hid (∀ b, b < G.length → FilterOk L G → cntS (ofs L G n b) (reachs L V n L.length) ≤ 1 ∧ (MatchOk L G V pay.size → cntS (ofs L G n b) (reachs L V n L.length) = 1) ∧ (ofs L G n b).length ≤ max 1 (2 * n - 2)) := fun b hb hF => once_count hn hGR.2.2.1 hF hb
    have hlt' : (reachs L V n L.length).length ≤ 54 := Nat.le_trans (reachs_len _ _ _ _) (by omega)
    clear hRe hGR r7 b7 M4 HRE k0 k1 kl hn9
    obtain ⟨tos, htos⟩ : ∃ tos, tos = reachs L V n L.length := ⟨_, rfl⟩
    rw [← htos] at HT7 hfull HND HOC hlt' ⊢
    clear htos
    have hq1 : (L.length : Int) * ((n : Int) + 1) = ((tos.length : Nat) : Int) := by rw [hfull]; simp
    have hq2 : wrap64 ((L.length : Int) * ((n : Int) + 1)) = ((tos.length : Nat) : Int) := by rw [hq1]; exact w64_in (by omega) (by omega)
    have hq3 : IntKind.i64.wrap ((L.length : Int) * ((n : Int) + 1)) = ((tos.length : Nat) : Int) := by rw [hq1]; exact IntWalk.i64_in _ (by omega)
    clear hfull
    obtain ⟨at', ct', et, hts⟩ := HT7.out.shape
    simp at et
    obtain ⟨rfl, rfl⟩ := et
    have HTS : Hid _ := hts
    clear hts HT7
    go_wp2
    go_loopg [66] tos.length (fun kx s66 wr => ∃ i : Nat, s66 = .int .i64 i ∧ i ≤ tos.length ∧ kx = tos.length - i ∧ Hid (Below W7.heap.size W7 wr))
    case atStart => exact ⟨0, rfl, Nat.zero_le _, rfl, (Below.refl _ _ : Below W7.heap.size W7 W7)⟩
    case round =>
      obtain ⟨i, rfl, hi, rfl, HB⟩ := hrel
      by_cases hlt : i < tos.length
      · obtain ⟨g, rfl, hg, hcap, hj⟩ := HTS.out (by omega)
        have hic : i ≤ c7 := by omega
        have HJ : Hid _ := hj
        clear hj
        go_wp2
        rename World => wq
        go_loopg [73] i (fun kx s73 wr => ∃ j : Nat, s73 = .int .i64 j ∧ j ≤ i ∧ kx = i - j ∧ Hid (Below W7.heap.size W7 wr))
        case atStart => exact ⟨0, rfl, Nat.zero_le _, rfl, HB⟩
        case round =>
          obtain ⟨j, rfl, hji, rfl, HB2⟩ := hrel
          by_cases hjl : j < i
          · have d0 := (HB2.out.cell (p := ⟨g, i, none⟩) hg).trans (HJ.out i hlt)
            have d1 := (HB2.out.cell (p := ⟨g, j, none⟩) hg).trans (HJ.out j (by omega))
            have hne := nodup_get HND.out hlt hjl
            generalize tos.getD i ByteArray.empty = s at d0 hne
            generalize tos.getD j ByteArray.empty = u at d1 hne
            have hx1 : s.toList ≠ u.toList := fun h => hne (toList_inj.1 h)
            have hx2 : (s.toList == u.toList) = false := by simpa using hx1
            go_wp2_with fail
            have ix : (0 : Int) ≤ (i : Int) ∧ (i : Int) < (tos.length : Int) := by omega
            have iy : (0 : Int) ≤ (j : Int) ∧ (j : Int) < (tos.length : Int) := by omega
            go_quiet (fail)
            have HB3 : Hid (Below W7.heap.size W7 (wr.drewN nq)) := HB2.out.trans ((dbeld _ _).mono HB2.out.size)
            go_wp2
            go_roundg (i - (j + 1))
            case measure => omega
            case rel => exact ⟨j + 1, by go_num, by omega, rfl, HB3⟩
          · obtain rfl : i = j := by omega
            go_wp2
            go_roundg (tos.length - (i + 1))
            case measure => omega
            case rel => exact ⟨i + 1, by go_num, by omega, rfl, HB2⟩
      · obtain rfl : tos.length = i := by omega
        rename World => wq
        have M8 : Hid (Mv w wq (.slice av L.length cv) (.slice ag G.length cg) (.slice au V.length cu) L G V eb pay) := M7.out.below HB.out
        go_wp2_with fail
        refine Calls.mono (of_of _ _ L G n wq M8.out.f.env M8.out.f.at_ M8.out.f.pd (by omega) (by omega) (fun i hi => Nat.le_trans (SL.out i hi) (by unfold maxLen; omega)) (fun i hi => ⟨Nat.le_trans (SG.out i hi).1 (by omega), Nat.le_trans (SG.out i hi).2 (by omega)⟩)) ?_
        rintro e W8 ⟨hOf, b8⟩
        have M9 : Hid (Mv w W8 (.slice av L.length cv) (.slice ag G.length cg) (.slice au V.length cu) L G V eb pay) := M8.out.below b8
        have HB9 : Hid (Below W7.heap.size W7 W8) := HB.out.trans (b8.mono HB.out.size)
        rcases hOf.elim with ⟨n', b, v8, hnn, rfl, hGd, hB', r8⟩ | ⟨t, x, rfl, hno⟩
        · obtain rfl : n = n' := by omega
          obtain ⟨ho1, ho2, ho3⟩ := HOC.out b hB'.lt hGd.2.2.2
          have HO8 : Hid (StIn W8 v8 (ofs L G n b)) := r8.isIn
          obtain ⟨a8, c8, hv8⟩ := r8.shape
          subst hv8
          generalize ofs L G n b = ofl at *
          have HOM : Hid (MatchOk L G V pay.size → cntS ofl tos = 1) := ho2
          have HO1 : Hid (cntS ofl tos ≤ 1) := ho1
          obtain ⟨ao', co', eo, hos⟩ := HO8.out.shape
          simp at eo
          obtain ⟨rfl, rfl⟩ := eo
          have HOS : Hid _ := hos
          have hlo : ofl.length ≤ 14 := by omega
          clear hos HO8 hOf hnn hB' r8 b8 M8 HOC hGd ho1 ho2
          have HTS8 : Hid (0 < tos.length → ∃ g, a7 = some ⟨g, 0, none⟩ ∧ g < W8.heap.size ∧ tos.length ≤ c7 ∧ ∀ j, j < tos.length → W8.cell? ⟨g, j, none⟩ = some (.string (tos.getD j ByteArray.empty))) := fun h0 => by
            obtain ⟨g, h1, h2, h3, h4⟩ := HTS.out h0
            exact ⟨g, h1, Nat.lt_of_lt_of_le h2 HB9.out.size, h3, fun j hj => (HB9.out.cell (p := ⟨g, j, none⟩) h2).trans (h4 j hj)⟩
          go_wp2
          go_loopg [21, 104] ofl.length (fun kx s21 s104 wr => ∃ i : Nat, s104 = .int .i64 i ∧ i ≤ ofl.length ∧ kx = ofl.length - i ∧ s21 = .int .i64 ((cntS (ofl.take i) tos : Nat) : Int) ∧ W8 = wr)
          case atStart => exact ⟨0, rfl, Nat.zero_le _, rfl, rfl, rfl⟩
          case round =>
            obtain ⟨i, rfl, hi, rfl, rfl, rfl⟩ := hrel
            have hcb : cntS (ofl.take i) tos ≤ 54000 := by
              refine Nat.le_trans (cntS_le _ _) ?_
              exact Nat.le_trans (Nat.mul_le_mul (show (ofl.take i).length ≤ 1000 by simp; omega) hlt') (by omega)
            by_cases hio : i < ofl.length
            · obtain ⟨go, rfl, hgo, hcao, hjo⟩ := HOS.out (by omega)
              have d0 := hjo i hio
              have HCT : Hid (cntS (ofl.take (i + 1)) tos = cntS (ofl.take i) tos + nS tos (ofl.getD i ByteArray.empty)) := cntS_take ofl tos i hio
              generalize ofl.getD i ByteArray.empty = nm at d0 HCT
              generalize cntS (ofl.take i) tos = c at *
              clear hjo
              go_wp2
              go_loopg [21, 110] tos.length (fun kx s21 s110 wr => ∃ j : Nat, s110 = .int .i64 j ∧ j ≤ tos.length ∧ kx = tos.length - j ∧ s21 = .int .i64 ((c + nS (tos.take j) nm : Nat) : Int) ∧ W8 = wr)
              case atStart => exact ⟨0, rfl, Nat.zero_le _, rfl, by simp [nS], rfl⟩
              case round =>
                obtain ⟨j, rfl, hj, rfl, rfl, rfl⟩ := hrel
                have hcj : nS (tos.take j) nm ≤ 54 := Nat.le_trans (nS_le _ _) (by simp; omega)
                by_cases hjt : j < tos.length
                · obtain ⟨gt, rfl, hgt, hcat, hjt'⟩ := HTS8.out (by omega)
                  have d1 := hjt' j hjt
                  have HCT2 : Hid (nS (tos.take (j + 1)) nm = nS (tos.take j) nm + if nm = tos.getD j ByteArray.empty then 1 else 0) := nS_take tos nm j hjt
                  generalize tos.getD j ByteArray.empty = nt at d1 HCT2
                  generalize nS (tos.take j) nm = c2 at *
                  clear hjt'
                  by_cases hxy : nm = nt
                  · subst hxy
                    have HE : Hid (nS (tos.take (j + 1)) nm = c2 + 1) := (by rw [HCT2.out]; simp : nS (tos.take (j + 1)) nm = c2 + 1)
                    go_wp2
                    go_roundg (tos.length - (j + 1))
                    case measure => omega
                    case rel => exact ⟨j + 1, by go_num, by omega, rfl, by rw [HE.out]; go_num, rfl⟩
                  · have HE : Hid (nS (tos.take (j + 1)) nm = c2) := (by rw [HCT2.out, if_neg hxy]; rfl : nS (tos.take (j + 1)) nm = c2)
                    have hx1 : nm.toList ≠ nt.toList := fun h => hxy (toList_inj.1 h)
                    have hx2 : (nm.toList == nt.toList) = false := by simpa using hx1
                    go_wp2
                    go_roundg (tos.length - (j + 1))
                    case measure => omega
                    case rel => exact ⟨j + 1, by go_num, by omega, rfl, by rw [HE.out], rfl⟩
                · obtain rfl : tos.length = j := by omega
                  have HE : Hid (c + nS (tos.take tos.length) nm = cntS (ofl.take (i + 1)) tos) := (by rw [HCT.out, List.take_length] : c + nS (tos.take tos.length) nm = cntS (ofl.take (i + 1)) tos)
                  rw [HE.out]
                  go_wp2
                  go_roundg (ofl.length - (i + 1))
                  case measure => omega
                  case rel => exact ⟨i + 1, by go_num, by omega, rfl, by simp, rfl⟩
            · obtain rfl : ofl.length = i := by omega
              rw [List.take_length] at *
              have hc1 := HO1.out
              have q0 := M9.out.e0
              have q1 := M9.out.e1
              have ql := cell_block q0
              generalize hcnt : cntS ofl tos = c at *
              go_wp2_with fail
              refine Calls.mono (awake8_any _ M9.out.f.env) ?_
              rintro e WA ⟨rfl, bA⟩
              have MA : Hid (Mv w WA (.slice av L.length cv) (.slice ag G.length cg) (.slice au V.length cu) L G V eb pay) := M9.out.below bA
              have r0 := cell_grown q0 bA
              have r1 := cell_grown q1 bA
              have rl := cell_block r0
              clear bA q0 q1 ql hcnt
              go_wp2_with fail
              refine (match_any _ _ _ L G V pay _ MA.out.f.at_ MA.out.f.pd MA.out.vl (by omega) (by omega) (by omega) SP.out (fun i hi => Nat.le_trans (SG.out i hi).1 (by unfold maxLen; omega)) (fun i hi => Nat.le_trans (SV.out i hi) (by unfold maxLen; omega))).mono ?_
              rintro e WC ⟨⟨mb, rfl, hmb⟩, bC⟩
              have BC : Hid (Below w.heap.size w WC) := (MA.out.below bC).f.bel
              have HMB : Hid (mb = true ↔ MatchOk L G V pay.size) := hmb
              clear bC hmb r0 r1 rl
              cases mb with
              | false =>
                by_cases hb : 1 < 2 * (n : Int) - 2
                all_goals
                  have hmx : ofl.length ≤ 1 ∨ 2 ≤ n := by omega
                  go_wp2
                  go_ret
                  exact ⟨ret_b (by simp <;> omega), BC.out⟩
              | true =>
                have hce := HOM.out (HMB.out.1 rfl)
                subst hce
                by_cases hb : 1 < 2 * (n : Int) - 2
                all_goals
                  go_wp2
                  go_ret
                  exact ⟨ret_b (by simp <;> omega), BC.out⟩
        · clear hOf hno b8
          go_wp2_with fail
          refine Calls.mono (awake8_any _ M9.out.f.env) ?_
          rintro e W9 ⟨rfl, b9⟩
          have B9 : Hid (Below w.heap.size w W9) := (M9.out.below b9).f.bel
          clear b9
          go_wp2
          go_ret
          exact ⟨ret_b (by simp), B9.out⟩
  · clear hRe hno b7
    go_wp2_with fail
    refine Calls.mono (awake8_any _ M7.out.f.env) ?_
    rintro e W9 ⟨rfl, b9⟩
    have B9 : Hid (Below w.heap.size w W9) := (M7.out.below b9).f.bel
    clear b9
    go_wp2
    go_ret
    exact ⟨ret_b (by simp), B9.out⟩
end Go.Proofs.YtiafamfnbpbfiaaDoor
