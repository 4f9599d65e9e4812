/- wigwaglaw08.GroupTight, walked. -/
import Derived.Test.YtiafamfnbpbfiabDoorGrSch
import Derived.Test.YtiafamfnbpbfiabDoorValTight
namespace Go.Proofs.YtiafamfnbpbfiabDoor
open Go.ChangeShapes Go.WideShapes Go.ChangeAt Go.RowKit
set_option linter.unusedVariables false

theorem lessM {G : List Pd} {i : Nat} : ∀ p ∈ G.take i ++ G.drop (i + 1), p ∈ G := fun p hp => by
  rcases List.mem_append.mp hp with h | h
  · exact List.mem_of_mem_take h
  · exact List.mem_of_mem_drop h
theorem getD_memP {G : List Pd} {i : Nat} (h : i < G.length) : G.getD i pd0 ∈ G := by
  rw [List.getD_eq_getElem?_getD, List.getElem?_eq_getElem h]; simp
theorem memP_getD {G : List Pd} {p : Pd} (h : p ∈ G) : ∃ i, i < G.length ∧ G.getD i pd0 = p := by
  obtain ⟨i, hi, e⟩ := List.mem_iff_getElem.1 h
  exact ⟨i, hi, by rw [List.getD_eq_getElem?_getD, List.getElem?_eq_getElem hi]; simpa using e⟩
theorem gdrew (w : World) : Below w.heap.size w w.drew := ⟨rfl, rfl, rfl, Nat.le_refl _, fun _ _ => rfl⟩
/-- What a choice leaves: both filters beside it. -/
structure Fm2 (w W : World) (sl gl ll : Value) (L : List At) (G S : List Pd) : Prop where
  f : Fm w W sl gl L G
  l : PdIn W ll S
theorem Fm2.below {w W W' : World} {sl gl ll : Value} {L : List At} {G S : List Pd} (h : Fm2 w W sl gl ll L G S) (b : Below W.heap.size W W') : Fm2 w W' sl gl ll L G S := ⟨h.f.below b, h.l.below b⟩
theorem Fm2.other {w W : World} {sl gl ll : Value} {L : List At} {G S : List Pd} (h : Fm2 w W sl gl ll L G S) : Fm w W sl ll L S := ⟨h.f.at_, h.l, h.f.env, h.f.bel⟩

set_option maxRecDepth 100000 in
set_option maxHeartbeats 4000000 in
theorem tight_walk (a0 : Option Addr) (len0 cap0 : Nat) (t0 : List At) (a1 : Option Addr) (len1 cap1 : Nat) (t1 : List Pd) (a2 a3 : Int) (w : World) (hE : GEnv w) (w0 : InRow 4 At.cells At.ok at0 w a0 len0 t0) (w1 : InRow 5 Pd.cells Pd.ok pd0 w a1 len1 t1) :
    Calls Tryd.prog 3 #[.slice a0 len0 cap0, .slice a1 len1 cap1, .int .i64 a2, .int .i64 a3] w fun e w' => e = .returned (.bool true) ∧ Below w.heap.size w w' := by
  obtain ⟨L, hL⟩ : ∃ L, L = (t0.take 6).map cutA := ⟨_, rfl⟩
  obtain ⟨G, hG⟩ : ∃ G, G = (t1.take 6).map cutP := ⟨_, rfl⟩
  have lL : L.length ≤ 6 := by rw [hL]; simp; omega
  have lG : G.length ≤ 6 := by rw [hG]; simp; omega
  have SL : Hid (∀ i, i < L.length → (L.getD i at0).name.size ≤ 20) := by rw [hL]; exact gz_cutA t0
  have SG : Hid (∀ i, i < G.length → (G.getD i pd0).str.size ≤ 50 ∧ (G.getD i pd0).name.size ≤ 20) := by rw [hG]; exact gz_cutP t1
  have hc1 := attrs_any a0 len0 cap0 t0 w w0
  rw [← hL] at hc1
  have HG : Hid (G = (t1.take 6).map cutP) := hG
  have HW1 : Hid _ := w1
  clear hL hG w0 w1
  go_enter Tryd.func3, Tryd.ntmps3
  go_wp2_with fail
  refine hc1.mono ?_
  rintro e W1 ⟨v1, v2, rfl, R1⟩
  clear hc1
  have A1 : Hid (AtIn W1 v1 L) := AtIn.ofOwn R1.r1
  have B1 : Hid (Below w.heap.size w W1) := R1.bel
  have hc2 := preds_any a1 len1 cap1 t1 W1 (InRow.below HW1.out (Nat.le_refl _) B1.out)
  rw [← HG.out] at hc2
  clear R1
  go_wp2_with fail
  refine hc2.mono ?_
  rintro e W5 ⟨p1, p2, rfl, R2⟩
  clear hc2
  have M2 : Hid (Fm w W5 v1 p1 L G) := ⟨A1.out.below R2.bel, PdIn.ofOwn R2.r1, (hE.below B1.out).below R2.bel, B1.out.trans (R2.bel.mono B1.out.size)⟩
  obtain ⟨av, cv, rfl, _⟩ := A1.out.shape
  obtain ⟨ag, cg, hg1⟩ := own_shape R2.r1
  subst hg1
  clear R2 A1 B1 HW1 hE
  by_cases g0 : a3 < 0
  case pos =>
    go_wp2_with fail
    refine Calls.mono (awake8_any _ M2.out.env) ?_
    rintro e W6 ⟨rfl, b6⟩
    have B6 : Hid (Below w.heap.size w W6) := (M2.out.below b6).bel
    clear b6
    go_wp2
    go_ret
    exact ⟨rfl, B6.out⟩
  by_cases g1 : (G.length : Int) ≤ a3
  case pos =>
    go_wp2_with fail
    refine Calls.mono (awake8_any _ M2.out.env) ?_
    rintro e W6 ⟨rfl, b6⟩
    have B6 : Hid (Below w.heap.size w W6) := (M2.out.below b6).bel
    clear b6
    go_wp2
    go_ret
    exact ⟨rfl, B6.out⟩
  by_cases g2 : (G.length : Int) < 2
  case pos =>
    go_wp2_with fail
    refine Calls.mono (awake8_any _ M2.out.env) ?_
    rintro e W6 ⟨rfl, b6⟩
    have B6 : Hid (Below w.heap.size w W6) := (M2.out.below b6).bel
    clear b6
    go_wp2
    go_ret
    exact ⟨rfl, B6.out⟩
  obtain ⟨i, rfl⟩ : ∃ i : Nat, a3 = i := ⟨a3.toNat, by omega⟩
  have hi : i < G.length := by omega
  have hi0 : decide ((i : Int) < 0) = false := decide_eq_false g0
  have hi1 : decide ((G.length : Int) ≤ (i : Int)) = false := decide_eq_false g1
  obtain ⟨gg, rfl, hgg, hcg, _⟩ := M2.out.pd.row i hi
  obtain ⟨i0, hii, hz0, hz1, hz2⟩ := info_parts Tryd.infoPd
  have hicg : i ≤ cg := by omega
  have hig : (i : Int) + 1 ≤ (G.length : Int) := by omega
  have hig' : i + 1 ≤ G.length := by omega
  have hicg' : i + 1 ≤ cg := by omega
  have O1 : Hid ((W5.alloc (.cells #[] 43)).drew.ownsRow W5.heap.size 43 5 (.slice (some ⟨W5.heap.size, 0, none⟩) 0 0) 0 []) := (World.ownsRow_made W5 #[] 0 (Nat.le_refl _) (Nat.zero_le _) rfl).drew
  have b6 : Below W5.heap.size W5 (W5.alloc (.cells #[] 43)).drew := (dbel1 _ _).trans ((gdrew _).mono (dbel1 _ _).size)
  have HB6 : Hid (Below W5.heap.size W5 (W5.alloc (.cells #[] 43)).drew) := b6
  have S1 : Hid (Src Tryd.prog 5 25 (.slice (some ⟨gg, 0, none⟩) i cg) i ((G.take i).flatMap Pd.cells) (W5.alloc (.cells #[] 43)).drew) := by
    have := src_part (M2.out.pd.below b6) 0 i cg (by omega) ⟨gg, 0, none⟩ (fun _ => rfl)
    show Src _ _ _ _ _ _ _
    simpa using this
  clear b6
  have hwr : IntKind.i64.wrap ((i : Int) + 1) = (i : Int) + 1 := IntWalk.i64_in _ ⟨by omega, by omega⟩
  have hto : ((i : Int) + 1).toNat = i + 1 := by omega
  have hp0 : (0 : Int) ≤ (i : Int) + 1 := by omega
  obtain ⟨AD, hAD, hADm⟩ : ∃ AD, (if cg = i + 1 then some (⟨gg, 0, none⟩ : Addr) else some ⟨gg, (i + 1) * 5, none⟩) = some AD ∧ (0 < G.length - (i + 1) → AD = ⟨gg, (i + 1) * 5, none⟩) := by
    by_cases h : cg = i + 1
    · exact ⟨⟨gg, 0, none⟩, by rw [if_pos h], fun hh => by omega⟩
    · exact ⟨⟨gg, (i + 1) * 5, none⟩, by rw [if_neg h], fun _ => rfl⟩
  have HAD : Hid (0 < G.length - (i + 1) → AD = ⟨gg, (i + 1) * 5, none⟩) := hADm
  clear hADm
  go_wp2_with fail
  go_region_law (first
    | (refine step_own_src5 _ (by rfl) _ _ 25 25 (by rfl) W5.heap.size 43 i0 _ 56 Tryd.underlying25 hii hz0 hz1 hz2 rfl _ _ _ (by rfl) O1.out _ i _ (by rfl) S1.out (by unfold maxLen; omega) (by omega) (by simp) ?_
       intro va Wx ha
       have HBx : Hid (Below W5.heap.size W5 Wx ∧ W5.heap.size ≤ Wx.heap.size) := ⟨grown_below HB6.out HB6.out.size O1.out ha.grown, Nat.le_trans HB6.out.size ha.grown.size⟩
       have HAx : Hid (Wx.ownsRow W5.heap.size 43 5 va (0 + i) ([] ++ (G.take i).flatMap Pd.cells)) := ha.row
       have S2 : Hid (Src Tryd.prog 5 25 (.slice (some AD) (G.length - (i + 1)) (cg - (i + 1))) (G.length - (i + 1)) (((G.drop (i + 1)).take (G.length - (i + 1))).flatMap Pd.cells) Wx) := src_part (M2.out.pd.below HBx.out.1) (i + 1) (G.length - (i + 1)) _ (by omega) AD HAD.out
       clear ha)
    | (refine step_own_src5 _ (by rfl) _ _ 25 25 (by rfl) W5.heap.size 43 i0 _ 56 Tryd.underlying25 hii hz0 hz1 hz2 rfl _ _ _ (by rfl) HAx.out _ (G.length - (i + 1)) _ (by rfl) S2.out (by unfold maxLen; omega) (by omega) HBx.out.2 ?_
       intro vb Wy hb))
  all_goals
    have QY : Hid (PdIn Wy vb (G.take i ++ G.drop (i + 1)) ∧ Below W5.heap.size W5 Wy) := by
      have hr := hb.row
      have e1 : (G.drop (i + 1)).take (G.length - (i + 1)) = G.drop (i + 1) := List.take_of_length_le (by simp)
      rw [e1, List.nil_append, ← List.flatMap_append] at hr
      have e2 : 0 + i + (G.length - (i + 1)) = (G.take i ++ G.drop (i + 1)).length := by simp; omega
      rw [e2] at hr
      exact ⟨PdIn.ofOwn hr, grown_below HBx.out.1 HBx.out.2 HAx.out hb.grown⟩
    obtain ⟨ab, cb, hvb⟩ := hb.shape
    subst hvb
    clear hb HAx S2 HBx
  have M3 : Hid (Fm2 w Wy (.slice av L.length cv) (.slice (some ⟨gg, 0, none⟩) G.length cg) (.slice ab (0 + i + (G.length - (i + 1))) cb) L G (G.take i ++ G.drop (i + 1))) := ⟨M2.out.below QY.out.2, QY.out.1⟩
  have HLM : Hid (∀ p ∈ G.take i ++ G.drop (i + 1), p ∈ G) := lessM
  have lS : (G.take i ++ G.drop (i + 1)).length ≤ 6 := by simp; omega
  have hnl : 0 + i + (G.length - (i + 1)) = (G.take i ++ G.drop (i + 1)).length := by simp; omega
  rw [hnl] at M3 ⊢
  clear QY O1 S1 HB6 HAD M2 hnl
  generalize G.take i ++ G.drop (i + 1) = S at *
  have SS : Hid (∀ i, i < S.length → (S.getD i pd0).str.size ≤ 50 ∧ (S.getD i pd0).name.size ≤ 20) := fun j hj => by
    obtain ⟨q, hq, e⟩ := memP_getD (HLM.out _ (getD_memP hj))
    rw [← e]; exact SG.out q hq
  go_wp2_with fail
  refine Calls.mono (choose_of _ _ L G a2 Wy M3.out.f.at_ M3.out.f.pd (by omega) (by omega) (fun i hi => Nat.le_trans (SL.out i hi) (by unfold maxLen; omega)) (fun i hi => Nat.le_trans (SG.out i hi).1 (by omega))) ?_
  rintro e W7 ⟨hCh, b7⟩
  have M4 : Hid (Fm2 w W7 (.slice av L.length cv) (.slice (some ⟨gg, 0, none⟩) G.length cg) (.slice ab S.length cb) L G S) := M3.out.below b7
  clear b7 M3
  rcases hCh.elim with ⟨n, b, rfl, rfl, hGd, hB⟩ | ⟨t, x, rfl, hno⟩
  · have HFG : Hid (FilterOk L G) := hGd.2.2.2
    have HBE : Hid (Best L G n b) := hB
    have hbl : b < G.length := hB.lt
    have hn : n ≤ 8 := by have := hGd.2.1; omega
    have zb : ¬ ((b : Int) = -1) := by omega
    clear hCh hGd hB
    go_wp2_with fail
    refine Calls.mono (choose_of _ _ L S _ W7 M4.out.f.at_ M4.out.l (by omega) (by omega) (fun i hi => Nat.le_trans (SL.out i hi) (by unfold maxLen; omega)) (fun i hi => Nat.le_trans (SS.out i hi).1 (by omega))) ?_
    rintro e W8 ⟨hC2, b8⟩
    have M5 : Hid (Fm2 w W8 (.slice av L.length cv) (.slice (some ⟨gg, 0, none⟩) G.length cg) (.slice ab S.length cb) L G S) := M4.out.below b8
    clear b8 M4
    rcases hC2.elim with ⟨n', c, hnn, rfl, hGd2, hB2⟩ | ⟨t, x, rfl, hno⟩
    · obtain rfl : n = n' := by omega
      have HFS : Hid (FilterOk L S) := hGd2.2.2.2
      have HBS : Hid (Best L S n c) := hB2
      have hcl2 : c < S.length := hB2.lt
      have HLE : Hid (szI L (G.getD b pd0) n ≤ szI L (S.getD c pd0) n) := (by
        obtain ⟨q, hq, e⟩ := memP_getD (HLM.out _ (getD_memP hcl2))
        rw [← e]; exact HBE.out.all q hq : szI L (G.getD b pd0) n ≤ szI L (S.getD c pd0) n)
      clear hC2 hGd2 hB2 hnn
      obtain ⟨_, kb, hkb, _⟩ := HFG.out.2.2 b hbl
      obtain ⟨ga, gp, ca', cg', ι, F, _, e1, e2, FR⟩ := fam_r M5.out.f b kb hbl hkb.1
      simp at e1 e2
      obtain ⟨rfl, rfl⟩ := e1
      obtain ⟨rfl, rfl⟩ := e2
      have hkl : kb < L.length := hkb.1
      obtain ⟨f0, f1, f2, f3, q0, q1, q2, q3, q4, hai, hst, hbe, hcl⟩ := FR
      have HR : Hid _ := fun W => range_any (L.getD kb at0) (G.getD b pd0) n W (Nat.le_trans (SG.out b hbl).1 (by omega))
      have HRG : Hid (rg L (G.getD b pd0) n = rangeOf (L.getD kb at0) (G.getD b pd0) n) := (by unfold rg; rw [posA_is hkb] : rg L (G.getD b pd0) n = rangeOf (L.getD kb at0) (G.getD b pd0) n)
      rw [← HRG.out] at HR
      have hbdb := rg_bd L (G.getD b pd0) n hn
      have HFK : Hid (FindAt L (G.getD b pd0).name kb) := hkb
      have HFF : Hid ((∃ j, { W8 with drawn := W8.drawn + 1 } = F j) ∧ (∀ j, Below W8.heap.size W8 (F j)) ∧ (∀ j W', Below W8.heap.size (F j) W' → ∃ j', W' = F j') ∧ (∀ j, AtIn (F j) (.slice (some ⟨ga, 0, none⟩) L.length cv) L)) := ⟨hst, hbe, hcl, hai⟩
      obtain ⟨lob, hlob⟩ : ∃ A, A = (rg L (G.getD b pd0) n).1 := ⟨_, rfl⟩
      obtain ⟨hib, hhib⟩ : ∃ B, B = (rg L (G.getD b pd0) n).2 := ⟨_, rfl⟩
      have HABb : Hid (szI L (G.getD b pd0) n = hib - lob + 1) := (by rw [hlob, hhib]; rfl : szI L (G.getD b pd0) n = hib - lob + 1)
      rw [← hlob, ← hhib] at HR hbdb
      generalize G.getD b pd0 = p at q0 q1 q2 q3 q4 HR HFK
      generalize L.getD kb at0 = x at f0 f1 f2 f3 HR
      clear hst hbe hcl hai hkb HRG hlob hhib
      go_wp2_with fail
      have ix : (0 : Int) ≤ (kb : Int) ∧ (kb : Int) < (L.length : Int) := by omega
      have iy : (0 : Int) ≤ (b : Int) ∧ (b : Int) < (G.length : Int) := by omega
      refine wp_region_fam F HFF.out.1 (by kernel_rfl) (by kernel_rfl) ?_
      repeat (go_big_quiet_step (first
        | (go_at_call 10; refine Calls.mono (find_any _ L p.name _ (HFF.out.2.2.2 _) (by omega)) ?_; rintro e' w' ⟨⟨r, hs, hfr⟩, hb⟩; rw [found_at hfr HFK.out] at hs; exact ⟨hs, HFF.out.2.2.1 _ _ (hb.mono (HFF.out.2.1 _).size)⟩)
        | (go_at_call 9; refine Calls.mono (HR.out _) ?_; rintro e' w' ⟨hs, hb⟩; exact ⟨hs, HFF.out.2.2.1 _ _ (hb.mono (HFF.out.2.1 _).size)⟩)))
      refine wpQuiet_nil ?_
      rintro _ ⟨j, rfl⟩
      have M6' := M5.out.below (HFF.out.2.1 j)
      generalize F j = Wa at M6'
      clear f0 f1 f2 f3 q0 q1 q2 q3 q4 HR HFK HFF ix iy
      have M6 : Hid _ := M6'
      clear M6' M5
      obtain ⟨_, kc, hkc, _⟩ := HFS.out.2.2 c hcl2
      obtain ⟨ga, gp, ca', cg', ι, F, _, e1, e2, FR⟩ := fam_r M6.out.other c kc hcl2 hkc.1
      simp at e1 e2
      obtain ⟨rfl, rfl⟩ := e1
      obtain ⟨rfl, rfl⟩ := e2
      have hkl : kc < L.length := hkc.1
      obtain ⟨f0, f1, f2, f3, q0, q1, q2, q3, q4, hai, hst, hbe, hcl⟩ := FR
      have HR : Hid _ := fun W => range_any (L.getD kc at0) (S.getD c pd0) n W (Nat.le_trans (SS.out c hcl2).1 (by omega))
      have HRG : Hid (rg L (S.getD c pd0) n = rangeOf (L.getD kc at0) (S.getD c pd0) n) := (by unfold rg; rw [posA_is hkc] : rg L (S.getD c pd0) n = rangeOf (L.getD kc at0) (S.getD c pd0) n)
      rw [← HRG.out] at HR
      have hbdc := rg_bd L (S.getD c pd0) n hn
      have HFK : Hid (FindAt L (S.getD c pd0).name kc) := hkc
      have HFF : Hid ((∃ j, { Wa with drawn := Wa.drawn + 1 } = F j) ∧ (∀ j, Below Wa.heap.size Wa (F j)) ∧ (∀ j W', Below Wa.heap.size (F j) W' → ∃ j', W' = F j') ∧ (∀ j, AtIn (F j) (.slice (some ⟨ga, 0, none⟩) L.length cv) L)) := ⟨hst, hbe, hcl, hai⟩
      obtain ⟨loc, hloc⟩ : ∃ A, A = (rg L (S.getD c pd0) n).1 := ⟨_, rfl⟩
      obtain ⟨hic, hhic⟩ : ∃ B, B = (rg L (S.getD c pd0) n).2 := ⟨_, rfl⟩
      have HABc : Hid (szI L (S.getD c pd0) n = hic - loc + 1) := (by rw [hloc, hhic]; rfl : szI L (S.getD c pd0) n = hic - loc + 1)
      rw [← hloc, ← hhic] at HR hbdc
      generalize S.getD c pd0 = p at q0 q1 q2 q3 q4 HR HFK
      generalize L.getD kc at0 = x at f0 f1 f2 f3 HR
      clear hst hbe hcl hai hkc HRG hloc hhic
      go_wp2_with fail
      have ix : (0 : Int) ≤ (kc : Int) ∧ (kc : Int) < (L.length : Int) := by omega
      have iy : (0 : Int) ≤ (c : Int) ∧ (c : Int) < (S.length : Int) := by omega
      refine wp_region_fam F HFF.out.1 (by kernel_rfl) (by kernel_rfl) ?_
      repeat (go_big_quiet_step (first
        | (go_at_call 10; refine Calls.mono (find_any _ L p.name _ (HFF.out.2.2.2 _) (by omega)) ?_; rintro e' w' ⟨⟨r, hs, hfr⟩, hb⟩; rw [found_at hfr HFK.out] at hs; exact ⟨hs, HFF.out.2.2.1 _ _ (hb.mono (HFF.out.2.1 _).size)⟩)
        | (go_at_call 9; refine Calls.mono (HR.out _) ?_; rintro e' w' ⟨hs, hb⟩; exact ⟨hs, HFF.out.2.2.1 _ _ (hb.mono (HFF.out.2.1 _).size)⟩)))
      refine wpQuiet_nil ?_
      rintro _ ⟨j, rfl⟩
      have M7' := M6.out.below (HFF.out.2.1 j)
      generalize F j = Wb at M7'
      clear f0 f1 f2 f3 q0 q1 q2 q3 q4 HR HFK HFF ix iy
      have M7 : Hid _ := M7'
      clear M7' M6
      have hfin : hib - lob ≤ hic - loc := by have h1 := HABb.out; have h2 := HABc.out; have h3 := HLE.out; omega
      go_wp2_with fail
      refine Calls.mono (awake8_any _ M7.out.f.env) ?_
      rintro e W9 ⟨rfl, b9⟩
      have B9 : Hid (Below w.heap.size w W9) := (M7.out.below b9).f.bel
      clear b9
      go_wp2
      go_ret
      exact ⟨ret_b (by simp <;> omega), B9.out⟩
    · clear hC2 hno
      go_wp2_with fail
      refine Calls.mono (awake8_any _ M5.out.f.env) ?_
      rintro e W9 ⟨rfl, b9⟩
      have B9 : Hid (Below w.heap.size w W9) := (M5.out.below b9).f.bel
      clear b9
      go_wp2
      go_ret
      exact ⟨ret_b (by simp <;> omega), B9.out⟩
  · clear hCh hno
    go_wp2_with fail
    refine Calls.mono (choose_of _ _ L S _ W7 M4.out.f.at_ M4.out.l (by omega) (by omega) (fun i hi => Nat.le_trans (SL.out i hi) (by unfold maxLen; omega)) (fun i hi => Nat.le_trans (SS.out i hi).1 (by omega))) ?_
    rintro e W8 ⟨hC2, b8⟩
    have M5 : Hid (Fm2 w W8 (.slice av L.length cv) (.slice (some ⟨gg, 0, none⟩) G.length cg) (.slice ab S.length cb) L G S) := M4.out.below b8
    clear b8 M4
    rcases hC2.elim with ⟨n', c, hnn, rfl, hGd2, hB2⟩ | ⟨t', x', rfl, hno⟩
    · have zc : ¬ ((c : Int) = -1) := by omega
      clear hC2 hGd2 hB2 hnn
      go_wp2_with fail
      refine Calls.mono (awake8_any _ M5.out.f.env) ?_
      rintro e W9 ⟨rfl, b9⟩
      have B9 : Hid (Below w.heap.size w W9) := (M5.out.below b9).f.bel
      clear b9
      go_wp2
      go_ret
      exact ⟨ret_b (by simp <;> omega), B9.out⟩
    · clear hC2 hno
      go_wp2_with fail
      refine Calls.mono (awake8_any _ M5.out.f.env) ?_
      rintro e W9 ⟨rfl, b9⟩
      have B9 : Hid (Below w.heap.size w W9) := (M5.out.below b9).f.bel
      clear b9
      go_wp2
      go_ret
      exact ⟨ret_b (by simp <;> omega), B9.out⟩
end Go.Proofs.YtiafamfnbpbfiabDoor
