/- wigwaglaw08.GroupFewest, walked. -/
import Derived.Test.YtiafamfnbpbfiaaDoorGrSch
namespace Go.Proofs.YtiafamfnbpbfiaaDoor
open Go.ChangeShapes Go.WideShapes Go.ChangeAt Go.RowKit
set_option linter.unusedVariables false

set_option maxRecDepth 100000 in
set_option maxHeartbeats 4000000 in
theorem few_walk (a0 : Option Addr) (len0 cap0 : Nat) (t0 : List At) (a1 : Option Addr) (len1 cap1 : Nat) (t1 : List Pd) (a2 : Int) (w : World) (hE : GEnv w) (w0 : InRow 4 At.cells At.ok at0 w a0 len0 t0) (w1 : InRow 5 Pd.cells Pd.ok pd0 w a1 len1 t1) :
    Calls Tryd.prog 6 #[.slice a0 len0 cap0, .slice a1 len1 cap1, .int .i64 a2] w fun e w' => e = .returned (.bool true) ∧ Below w.heap.size w w' := by
  obtain ⟨L, hL⟩ : ∃ L, L = (t0.take 6).map cutA := ⟨_, rfl⟩
  obtain ⟨G, hG⟩ : ∃ G, G = (t1.take 6).map cutP := ⟨_, rfl⟩
  have lL : L.length ≤ 6 := by rw [hL]; simp; omega
  have lG : G.length ≤ 6 := by rw [hG]; simp; omega
  have SL : Hid (∀ i, i < L.length → (L.getD i at0).name.size ≤ 20) := by rw [hL]; exact gz_cutA t0
  have SG : Hid (∀ i, i < G.length → (G.getD i pd0).str.size ≤ 50 ∧ (G.getD i pd0).name.size ≤ 20) := by rw [hG]; exact gz_cutP t1
  have hc1 := attrs_any a0 len0 cap0 t0 w w0
  rw [← hL] at hc1
  have HG : Hid (G = (t1.take 6).map cutP) := hG
  have HW1 : Hid _ := w1
  clear hL hG w0 w1
  go_enter Tryd.func6, Tryd.ntmps6
  go_wp2_with fail
  refine hc1.mono ?_
  rintro e W1 ⟨v1, v2, rfl, R1⟩
  clear hc1
  have A1 : Hid (AtIn W1 v1 L) := AtIn.ofOwn R1.r1
  have B1 : Hid (Below w.heap.size w W1) := R1.bel
  have hc2 := preds_any a1 len1 cap1 t1 W1 (InRow.below HW1.out (Nat.le_refl _) B1.out)
  rw [← HG.out] at hc2
  clear R1
  go_wp2_with fail
  refine hc2.mono ?_
  rintro e W2 ⟨p1, p2, rfl, R2⟩
  clear hc2
  have M2 : Hid (Fm w W2 v1 p1 L G) := ⟨A1.out.below R2.bel, PdIn.ofOwn R2.r1, (hE.below B1.out).below R2.bel, B1.out.trans (R2.bel.mono B1.out.size)⟩
  obtain ⟨av, cv, rfl, _⟩ := A1.out.shape
  obtain ⟨ag, cg, hg1⟩ := own_shape R2.r1
  subst hg1
  clear R2 A1 B1 HW1 hE
  go_wp2_with fail
  refine Calls.mono (choose_of _ _ L G a2 W2 M2.out.at_ M2.out.pd (by omega) (by omega) (fun i hi => Nat.le_trans (SL.out i hi) (by unfold maxLen; omega)) (fun i hi => Nat.le_trans (SG.out i hi).1 (by omega))) ?_
  rintro e W3 ⟨hCh, b3⟩
  have M3 : Hid (Fm w W3 (.slice av L.length cv) (.slice ag G.length cg) L G) := M2.out.below b3
  clear b3 M2
  rcases hCh.elim with ⟨n, b, rfl, rfl, hGd, hB⟩ | ⟨t, x, rfl, hno⟩
  · have HF : Hid (FilterOk L G) := hGd.2.2.2
    have HBE : Hid (Best L G n b) := hB
    have hbl : b < G.length := hB.lt
    have hn : n ≤ 8 := by have := hGd.2.1; omega
    clear hCh hGd hB
    obtain ⟨_, kb, hkb, _⟩ := HF.out.2.2 b hbl
    obtain ⟨ga, gp, ca', cg', ι, F, _, e1, e2, FR⟩ := fam_r M3.out b kb hbl hkb.1
    simp at e1 e2
    obtain ⟨rfl, rfl⟩ := e1
    obtain ⟨rfl, rfl⟩ := e2
    have hkl : kb < L.length := hkb.1
    obtain ⟨f0, f1, f2, f3, q0, q1, q2, q3, q4, hai, hst, hbe, hcl⟩ := FR
    have HR : Hid _ := fun W => range_any (L.getD kb at0) (G.getD b pd0) n W (Nat.le_trans (SG.out b hbl).1 (by omega))
    have HRG : Hid (rg L (G.getD b pd0) n = rangeOf (L.getD kb at0) (G.getD b pd0) n) := (by unfold rg; rw [posA_is hkb] : rg L (G.getD b pd0) n = rangeOf (L.getD kb at0) (G.getD b pd0) n)
    rw [← HRG.out] at HR
    have hbd := rg_bd L (G.getD b pd0) n hn
    have HFK : Hid (FindAt L (G.getD b pd0).name kb) := hkb
    have HFF : Hid ((∃ j, { W3 with drawn := W3.drawn + 1 } = F j) ∧ (∀ j, Below W3.heap.size W3 (F j)) ∧ (∀ j W', Below W3.heap.size (F j) W' → ∃ j', W' = F j') ∧ (∀ j, AtIn (F j) (.slice (some ⟨ga, 0, none⟩) L.length cv) L)) := ⟨hst, hbe, hcl, hai⟩
    have z1 : ¬ ((b : Int) < 0) := by omega
    have z2 : ¬ ((G.length : Int) ≤ (b : Int)) := by omega
    have z3 : decide ((b : Int) < 0) = false := decide_eq_false z1
    have z4 : decide (G.length ≤ b) = false := decide_eq_false (by omega)
    obtain ⟨A, hA⟩ : ∃ A, A = (rg L (G.getD b pd0) n).1 := ⟨_, rfl⟩
    obtain ⟨Bv, hBv⟩ : ∃ B, B = (rg L (G.getD b pd0) n).2 := ⟨_, rfl⟩
    have HAB : Hid (A = (rg L (G.getD b pd0) n).1 ∧ Bv = (rg L (G.getD b pd0) n).2) := ⟨hA, hBv⟩
    rw [← hA, ← hBv] at HR hbd
    generalize G.getD b pd0 = p at q0 q1 q2 q3 q4 HR HFK
    generalize L.getD kb at0 = x at f0 f1 f2 f3 HR
    clear hst hbe hcl hai hkb HRG hA hBv
    go_wp2_with fail
    clear z1 z2 z3 z4
    have ix : (0 : Int) ≤ (kb : Int) ∧ (kb : Int) < (L.length : Int) := by omega
    have iy : (0 : Int) ≤ (b : Int) ∧ (b : Int) < (G.length : Int) := by omega
    refine wp_region_fam F HFF.out.1 (by kernel_rfl) (by kernel_rfl) ?_
    repeat (go_big_quiet_step (first
      | (go_at_call 16; refine Calls.mono (find_any _ L p.name _ (HFF.out.2.2.2 _) (by omega)) ?_; rintro e' w' ⟨⟨r, hs, hfr⟩, hb⟩; rw [found_at hfr HFK.out] at hs; exact ⟨hs, HFF.out.2.2.1 _ _ (hb.mono (HFF.out.2.1 _).size)⟩)
      | (go_at_call 15; refine Calls.mono (HR.out _) ?_; rintro e' w' ⟨hs, hb⟩; exact ⟨hs, HFF.out.2.2.1 _ _ (hb.mono (HFF.out.2.1 _).size)⟩)))
    refine wpQuiet_nil ?_
    rintro _ ⟨j, rfl⟩
    have M4 : Hid (Fm w (F j) (.slice (some ⟨ga, 0, none⟩) L.length cv) (.slice (some ⟨gp, 0, none⟩) G.length cg) L G) := M3.out.below (HFF.out.2.1 j)
    generalize F j = W4 at M4
    clear f0 f1 f2 f3 q0 q1 q2 q3 q4 HR HFK HFF M3 ix
    go_wp2
    go_loopg [77] G.length (fun kx s77 wr => ∃ i : Nat, s77 = .int .i64 i ∧ i ≤ G.length ∧ kx = G.length - i ∧ Hid (Fm w wr (.slice (some ⟨ga, 0, none⟩) L.length cv) (.slice (some ⟨gp, 0, none⟩) G.length cg) L G))
    case atStart => exact ⟨0, rfl, Nat.zero_le _, rfl, M4⟩
    case round =>
      obtain ⟨i, rfl, hi, rfl, M⟩ := hrel
      by_cases hlt : i < G.length
      · obtain ⟨_, kk, hkk, _⟩ := HF.out.2.2 i hlt
        obtain ⟨ga', gp', ca', cg', ι2, F, _, e1, e2, FR⟩ := fam_r M.out i kk hlt hkk.1
        simp at e1 e2
        obtain ⟨rfl, rfl⟩ := e1
        obtain ⟨rfl, rfl⟩ := e2
        have hkl2 : kk < L.length := hkk.1
        obtain ⟨f0, f1, f2, f3, q0, q1, q2, q3, q4, hai, hst, hbe, hcl⟩ := FR
        have HR : Hid _ := fun W => range_any (L.getD kk at0) (G.getD i pd0) n W (Nat.le_trans (SG.out i hlt).1 (by omega))
        have HRG : Hid (rg L (G.getD i pd0) n = rangeOf (L.getD kk at0) (G.getD i pd0) n) := (by unfold rg; rw [posA_is hkk] : rg L (G.getD i pd0) n = rangeOf (L.getD kk at0) (G.getD i pd0) n)
        rw [← HRG.out] at HR
        have hbd2 := rg_bd L (G.getD i pd0) n hn
        have HFK : Hid (FindAt L (G.getD i pd0).name kk) := hkk
        have HFF : Hid ((∃ j, { wr with drawn := wr.drawn + 1 } = F j) ∧ (∀ j, Below wr.heap.size wr (F j)) ∧ (∀ j W', Below wr.heap.size (F j) W' → ∃ j', W' = F j') ∧ (∀ j, AtIn (F j) (.slice (some ⟨ga, 0, none⟩) L.length cv) L)) := ⟨hst, hbe, hcl, hai⟩
        have HALL : Hid (Bv - A + 1 ≤ (rg L (G.getD i pd0) n).2 - (rg L (G.getD i pd0) n).1 + 1 ∧ (i < b → Bv - A + 1 < (rg L (G.getD i pd0) n).2 - (rg L (G.getD i pd0) n).1 + 1)) := by
          rw [HAB.out.1, HAB.out.2]
          exact ⟨HBE.out.all i hlt, fun h => HBE.out.fst i h⟩
        obtain ⟨A2, hA2⟩ : ∃ A, A = (rg L (G.getD i pd0) n).1 := ⟨_, rfl⟩
        obtain ⟨B2, hB2⟩ : ∃ B, B = (rg L (G.getD i pd0) n).2 := ⟨_, rfl⟩
        rw [← hA2, ← hB2] at HR hbd2 HALL
        generalize G.getD i pd0 = p at q0 q1 q2 q3 q4 HR HFK
        generalize L.getD kk at0 = x at f0 f1 f2 f3 HR
        have y1 : ¬ (B2 - A2 < Bv - A) := by have := HALL.out.1; omega
        have y2 : i < b → ¬ (B2 - A2 = Bv - A) := fun h => by have := HALL.out.2 h; omega
        have HY2 : Hid (i < b → ¬ (B2 - A2 = Bv - A)) := y2
        clear hst hbe hcl hai hkk HRG hA2 hB2 HALL y2
        go_wp2_with fail
        have ix : (0 : Int) ≤ (kk : Int) ∧ (kk : Int) < (L.length : Int) := by omega
        have iy : (0 : Int) ≤ (i : Int) ∧ (i : Int) < (G.length : Int) := by omega
        refine wp_region_fam F HFF.out.1 (by kernel_rfl) (by kernel_rfl) ?_
        repeat (go_big_quiet_step (first
          | (go_at_call 16; refine Calls.mono (find_any _ L p.name _ (HFF.out.2.2.2 _) (by omega)) ?_; rintro e' w' ⟨⟨r, hs, hfr⟩, hb⟩; rw [found_at hfr HFK.out] at hs; exact ⟨hs, HFF.out.2.2.1 _ _ (hb.mono (HFF.out.2.1 _).size)⟩)
          | (go_at_call 15; refine Calls.mono (HR.out _) ?_; rintro e' w' ⟨hs, hb⟩; exact ⟨hs, HFF.out.2.2.1 _ _ (hb.mono (HFF.out.2.1 _).size)⟩)))
        refine wpQuiet_nil ?_
        rintro _ ⟨j, rfl⟩
        have M5 : Hid (Fm w (F j) (.slice (some ⟨ga, 0, none⟩) L.length cv) (.slice (some ⟨gp, 0, none⟩) G.length cg) L G) := M.out.below (HFF.out.2.1 j)
        generalize F j = W5 at M5
        clear f0 f1 f2 f3 q0 q1 q2 q3 q4 HR HFK HFF ix iy
        by_cases hib : i < b
        · have y3 := HY2.out hib
          have y4 : ((B2 - A2) == (Bv - A)) = false := by simpa using y3
          go_wp2
          go_roundg (G.length - (i + 1))
          case measure => omega
          case rel => exact ⟨i + 1, by go_num, by omega, rfl, M5⟩
        · go_wp2
          go_roundg (G.length - (i + 1))
          case measure => omega
          case rel => exact ⟨i + 1, by go_num, by omega, rfl, M5⟩
      · go_wp2_with fail
        refine Calls.mono (awake8_any _ M.out.env) ?_
        rintro e W6 ⟨rfl, b6⟩
        have B6 : Hid (Below w.heap.size w W6) := (M.out.below b6).bel
        clear b6
        go_wp2
        go_ret
        exact ⟨rfl, B6.out⟩
  · clear hCh hno
    go_wp2_with fail
    refine Calls.mono (awake8_any _ M3.out.env) ?_
    rintro e W4 ⟨rfl, b4⟩
    have B4 : Hid (Below w.heap.size w W4) := (M3.out.below b4).bel
    clear b4
    go_wp2
    go_ret
    exact ⟨rfl, B4.out⟩
end Go.Proofs.YtiafamfnbpbfiaaDoor
