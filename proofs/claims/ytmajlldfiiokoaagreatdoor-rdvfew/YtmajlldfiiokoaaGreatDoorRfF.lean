/- wigwagref10.Fail. -/
import Derived.Test.YtmajlldfiiokoaaGreatDoorRfR
namespace Go.Proofs.YtmajlldfiiokoaaGreatDoor
open Go.ChangeShapes Go.WideShapes Go.ChangeAt Go.RowKit Go.Deep
set_option linter.unusedVariables false

theorem livesB_rng {R : Rg} (h : ∀ n, R.lives n = true → 0 ≤ n ∧ n < 32) (n : Int) : livesB (lvL R) n = R.lives n := by
  by_cases n0 : n < 0
  · rw [lives_neg n0]
    cases hl : R.lives n
    · rfl
    · have := h n hl; omega
  · by_cases nk : n < 32
    · rw [lives_at (by omega), lvL_getD R (by omega)]
      congr 1; omega
    · rw [lives_out (by simp [lvL]; omega)]
      cases hl : R.lives n
      · rfl
      · have := h n hl; omega
theorem headI_rng {R : Rg} (h : ∀ n, R.lives n = true → 0 ≤ n ∧ n < 32) (l : List Int) : headI (lvL R) l = headF R.lives l := by
  induction l with
  | nil => rfl
  | cons a l ih => simp only [headI, headF, livesB_rng h, ih]
theorem headF_neg {R : Rg} (h : ∀ n, R.lives n = true → 0 ≤ n ∧ n < 32) (l : List Int) : headF R.lives l < 0 ↔ headF R.lives l = -1 := by
  rcases head_lv R.lives l with q | q
  · rw [q]; omega
  · have := h _ q; omega
theorem delK_rng {R : Rg} (h : Inv R) (n : Int) : ∀ x, (R.delK n).lives x = true → 0 ≤ x ∧ x < 32 := fun x hx => by
  rw [lives_delK] at hx
  split at hx
  · cases hx
  · exact h.rng x hx
theorem delK_know {R : Rg} {n m : Int} (h : m ≠ n) : (R.delK n).know m = R.know m := by simp [Rg.know, Rg.delK, upd, h]
theorem needed_del {R : Rg} (h : Inv R) (n : Int) : R.needed n = true ↔ ∃ m ∈ (R.delK n).live, headF (R.delK n).lives ((R.delK n).know m).succ = -1 := by
  have hf : (fun x => x != -1 && (x != n && R.lives x)) = (R.delK n).lives := by
    funext x
    rw [lives_delK]
    by_cases e : x = n
    · simp [e]
    · rw [if_neg e]
      have e1 : (x != n) = true := by simpa using e
      cases hl : R.lives x
      · simp
      · have := h.rng x hl
        have e2 : (x != -1) = true := by simp; omega
        simp [e1, e2]
  unfold Rg.needed anyF
  rw [List.any_eq_true]
  constructor
  · rintro ⟨m, hm, hl⟩
    unfold Rg.lone at hl
    rw [hf] at hl
    simp only [Bool.and_eq_true, bne_iff_ne, ne_eq, beq_iff_eq] at hl
    have hm' := (mem_live R m).1 hm
    refine ⟨m, (mem_live _ m).2 ⟨hm'.1, hm'.2.1, by rw [lives_delK, if_neg hl.1]; exact hm'.2.2⟩, by rw [delK_know hl.1]; exact hl.2⟩
  · rintro ⟨m, hm, hl⟩
    have hm' := (mem_live _ m).1 hm
    rw [lives_delK] at hm'
    have hne : m ≠ n := fun e => by rw [if_pos e] at hm'; cases hm'.2.2
    rw [if_neg hne] at hm'
    refine ⟨m, (mem_live R m).2 hm', ?_⟩
    unfold Rg.lone
    rw [hf, ← delK_know hne, hl]
    simpa using hne
theorem del_rows (R : Rg) {k : Nat} (hk : k < 32) : usL (R.delK k) = usL R ∧ lvL (R.delK k) = (lvL R).set k false ∧ idL (R.delK k) = idL R := by
  refine ⟨rfl, ?_, rfl⟩
  apply List.ext_getElem?
  intro j
  rw [List.getElem?_set]
  unfold lvL
  rw [List.getElem?_map, List.getElem?_map]
  by_cases hj : j < 32
  · by_cases e : k = j
    · subst e; simp [hk, lives_delK]
    · rw [if_neg e]
      have : (j : Int) ≠ (k : Int) := by omega
      simp [hj, lives_delK, this]
  · have e : k ≠ j := by omega
    rw [if_neg e]
    simp [List.getElem?_eq_none (show (List.range 32).length ≤ j by simp; omega)]
theorem KnP.del {X : World} {B gp : Nat} {R : Rg} {P : List Pr3} (h : KnP X B gp R P) (n : Int) : KnP X B gp (R.delK n) P := fun k hk x hx => by
  refine h k hk x ?_
  simp only [Rg.delK, upd] at hx
  split at hx
  · cases hx
  · exact hx
theorem bl_set (L : List Bool) (k : Nat) (b : Bool) : (bl L).set k (.bool b) = bl (L.set k b) := by simp [bl, List.map_set]
theorem ul_set (L : List Int) (k : Nat) (b : Int) : (ul L).set k (.int .u64 b) = ul (L.set k b) := by simp [ul, List.map_set]
theorem RfO.setL {B : Nat} {w : World} {gu cu gl cl gi ci gp cp : Nat} {U L : List Bool} {I : List Int} {P : List Pr3} (h : RfO B w gu cu gl cl gi ci gp cp U L I P) (k : Nat) (b : Bool) : RfO B (w.setCell ⟨gl, k, none⟩ (.bool b)) gu cu gl cl gi ci gp cp U (L.set k b) I P := by
  have hn := h.ne
  have hs := (h.l.stored k (.bool b)).1
  rw [bl_set] at hs
  have ho : ∀ g, g ≠ gl → (w.setCell ⟨gl, k, none⟩ (.bool b)).heap[g]? = w.heap[g]? := fun g hg => Below.heap_setCell _ _ _ _ (by simpa using hg)
  refine ⟨row_kept h.u (fun g hg => ?_), hs, row_kept h.i (fun g hg => ?_), row_kept h.p (fun g hg => ?_), h.ne, h.ok⟩ <;> (simp [Value.ownBlock] at hg; exact ho g (by omega))
theorem RfO.setU {B : Nat} {w : World} {gu cu gl cl gi ci gp cp : Nat} {U L : List Bool} {I : List Int} {P : List Pr3} (h : RfO B w gu cu gl cl gi ci gp cp U L I P) (k : Nat) (b : Bool) : RfO B (w.setCell ⟨gu, k, none⟩ (.bool b)) gu cu gl cl gi ci gp cp (U.set k b) L I P := by
  have hn := h.ne
  have hs := (h.u.stored k (.bool b)).1
  rw [bl_set] at hs
  have ho : ∀ g, g ≠ gu → (w.setCell ⟨gu, k, none⟩ (.bool b)).heap[g]? = w.heap[g]? := fun g hg => Below.heap_setCell _ _ _ _ (by simpa using hg)
  refine ⟨hs, row_kept h.l (fun g hg => ?_), row_kept h.i (fun g hg => ?_), row_kept h.p (fun g hg => ?_), h.ne, h.ok⟩ <;> (simp [Value.ownBlock] at hg; exact ho g (by omega))
theorem RfO.setI {B : Nat} {w : World} {gu cu gl cl gi ci gp cp : Nat} {U L : List Bool} {I : List Int} {P : List Pr3} (h : RfO B w gu cu gl cl gi ci gp cp U L I P) (k : Nat) (b : Int) (hb : u64 b) : RfO B (w.setCell ⟨gi, k, none⟩ (.int .u64 b)) gu cu gl cl gi ci gp cp U L (I.set k b) P := by
  have hn := h.ne
  have hs := (h.i.stored k (.int .u64 b)).1
  rw [ul_set] at hs
  have ho : ∀ g, g ≠ gi → (w.setCell ⟨gi, k, none⟩ (.int .u64 b)).heap[g]? = w.heap[g]? := fun g hg => Below.heap_setCell _ _ _ _ (by simpa using hg)
  refine ⟨row_kept h.u (fun g hg => ?_), row_kept h.l (fun g hg => ?_), hs, row_kept h.p (fun g hg => ?_), h.ne, fun x hx => ?_, h.ok.2⟩
  · simp [Value.ownBlock] at hg; exact ho g (by omega)
  · simp [Value.ownBlock] at hg; exact ho g (by omega)
  · simp [Value.ownBlock] at hg; exact ho g (by omega)
  · rcases List.mem_or_eq_of_mem_set hx with r | r
    · exact h.ok.1 x r
    · rw [r]; exact hb
/-- Two boxes, and a ring of the document's that one of them shows. -/
theorem ans4 {w W : World} {R : Rg} {a0 a1 a2 a3 : Value} {t : TypeId} {c0 c1 c2 c3 : Value} (hv : RfV W R (.agg #[a0, a1, a2, a3])) (hb : Below w.heap.size w W) (hres : W.heap[w.heap.size + 1]? = some (.cells #[c0, c1, c2, c3] t (0, 0))) (h0 : ∃ a n c, c0 = .slice a n c) (h1 : ∃ a n c, c1 = .slice a n c) (h2 : ∃ a n c, c2 = .slice a n c) (h3 : ∃ a n c, c3 = .slice a n c) :
    RfV ((((W.setCell ⟨w.heap.size + 1, 0, none⟩ a0).setCell ⟨w.heap.size + 1, 1, none⟩ a1).setCell ⟨w.heap.size + 1, 2, none⟩ a2).setCell ⟨w.heap.size + 1, 3, none⟩ a3) R (.agg #[a0, a1, a2, a3]) ∧ Below w.heap.size w ((((W.setCell ⟨w.heap.size + 1, 0, none⟩ a0).setCell ⟨w.heap.size + 1, 1, none⟩ a1).setCell ⟨w.heap.size + 1, 2, none⟩ a2).setCell ⟨w.heap.size + 1, 3, none⟩ a3) :=
  ⟨hv.off (w' := set4 W (w.heap.size + 1) a0 a1 a2 a3) (by rw [set4_size]; exact Nat.le_refl _) (off_set4 hres h0 h1 h2 h3 a0 a1 a2 a3), set4_below hb (p := w.heap.size + 1) (by omega) a0 a1 a2 a3⟩

set_option maxRecDepth 100000 in
set_option maxHeartbeats 8000000 in
theorem rfail_r (R : Rg) (v : Value) (n : Int) (w : World) (h : RfV w R v) (hi : Inv R) :
    Calls Tryz.prog 60 #[v, .int .i64 n] w fun e w' => ∃ v', e = .returned (.tuple #[v', .int .i64 (R.failC n)]) ∧ RfV w' (R.fail n) v' ∧ Below w.heap.size w w' := by
  have HV : Hid (RfV w R v ∧ Inv R) := ⟨h, hi⟩
  obtain ⟨ua, uc, la, lc, ia, ic, pa, pc, P, rfl, h1, h2, h3, h4, h5⟩ := h.ex
  have HIN : Hid (LvIn w ua 32 (usL R) ∧ LvIn w la 32 (lvL R) ∧ IdIn w ia 32 (idL R) ∧ InRow 3 Pr3.cells Pr3.ok pr30 w pa 32 P ∧ ∀ j : Nat, j < 32 → PrOk w (R.kn j) (P.getD j pr30)) := ⟨h1, h2, h3, h4, h5⟩
  obtain ⟨bl0, hbl0⟩ : ∃ b, b = R.lives n := ⟨_, rfl⟩
  have HW : Hid (RfW w (lvL R) (idL R) (.agg #[.slice la 32 lc, .slice ia 32 ic]) ∧ livesB (lvL R) n = bl0 ∧ bl0 = R.lives n) := ⟨⟨la, 32, lc, ia, 32, ic, rfl, h2, h3⟩, by rw [livesB_R hi, hbl0], hbl0⟩
  clear h h1 h2 h3 h4 h5 hi hbl0
  obtain ⟨W1, hW1⟩ : ∃ W1, W1 = (w.alloc (.cells #[.slice ua 32 uc, .slice la 32 lc, .slice ia 32 ic, .slice pa 32 pc] 32)).alloc (.cells #[.slice none 0 0, .slice none 0 0, .slice none 0 0, .slice none 0 0] 32) := ⟨_, rfl⟩
  have H1 : Hid (RfI w W1 (.slice ua 32 uc) (.bool true) (.slice la 32 lc) (.bool true) (.slice ia 32 ic) (.bool true) (.slice pa 32 pc) (.bool true)) := by rw [hW1]; exact RfI.start w _ _ _ _ _
  obtain ⟨r0, r1, r2, r3, rl⟩ := c4_block H1.out.box
  go_enter Tryz.func60, Tryz.ntmps60
  go_upto_region 1 with fail
  rw [← hW1]
  clear hW1
  go_wp2_with fail
  refine (rlives_r _ _ _ _ _ (HW.out.1.below H1.out.bel)).mono ?_
  rintro e w2 ⟨rfl, hb2⟩
  rw [HW.out.2.1]
  have H2 : Hid (RfI w w2 (.slice ua 32 uc) (.bool true) (.slice la 32 lc) (.bool true) (.slice ia 32 ic) (.bool true) (.slice pa 32 pc) (.bool true)) := H1.out.below hb2
  clear r0 r1 r2 r3 rl H1 hb2
  obtain ⟨r0, r1, r2, r3, rl⟩ := c4_block H2.out.box
  obtain ⟨s0, s1, s2, s3, sl⟩ := c4_block H2.out.res
  have sf := fz_block H2.out.res
  have hv2 := HV.out.1.below H2.out.bel
  have ha := ans4 hv2 H2.out.bel H2.out.res ⟨_, _, _, rfl⟩ ⟨_, _, _, rfl⟩ ⟨_, _, _, rfl⟩ ⟨_, _, _, rfl⟩
  have HA : Hid _ := ha
  clear ha hv2
  cases bl0
  · have E : Hid (R.failC n = 6 ∧ R.fail n = R) := (by have := HW.out.2.2; simp [Rg.failC, Rg.fail, ← this] : R.failC n = 6 ∧ R.fail n = R)
    go_wp2
    refine bodyPost_ret (v := .tuple #[.agg #[.slice ua 32 uc, .slice la 32 lc, .slice ia 32 ic, .slice pa 32 pc], .int .i64 6]) (by simp [results, Tryz.results60, go_sem, s0, s1, s2, s3]) rfl ⟨_, by rw [E.out.1], by rw [E.out.2]; exact HA.out.1, HA.out.2⟩
  · have hlv : R.lives n = true := HW.out.2.2.symm
    have hr := HV.out.2.rng n hlv
    obtain ⟨k, hk⟩ : ∃ k : Nat, n = k := ⟨n.toNat, by omega⟩
    subst hk
    have hk32 : k < 32 := by omega
    have hkI : (0 : Int) ≤ (k : Int) ∧ (k : Int) < 32 := by omega
    have HLV : Hid (R.lives k = true) := hlv
    clear hlv hr
    by_cases h4 : (k : Int) < 4
    · have E : Hid (R.failC k = 5 ∧ R.fail k = R) := (by have := HLV.out; simp [Rg.failC, Rg.fail, this, h4] : R.failC k = 5 ∧ R.fail k = R)
      go_wp2
      refine bodyPost_ret (v := .tuple #[.agg #[.slice ua 32 uc, .slice la 32 lc, .slice ia 32 ic, .slice pa 32 pc], .int .i64 5]) (by simp [results, Tryz.results60, go_sem, s0, s1, s2, s3]) rfl ⟨_, by rw [E.out.1], by rw [E.out.2]; exact HA.out.1, HA.out.2⟩
    · have bl2 : Hid (Below w.heap.size w w2) := H2.out.bel
      go_wp2_with fail
      refine (rcopy_r ua la ia pa uc lc ic pc (usL R) (lvL R) (idL R) P w2 (HIN.out.1.below (Nat.le_refl _) bl2.out) (HIN.out.2.1.below (Nat.le_refl _) bl2.out) (HIN.out.2.2.1.below (Nat.le_refl _) bl2.out) (HIN.out.2.2.2.1.below (Nat.le_refl _) bl2.out)).mono ?_
      rintro e w3 ⟨gu, cu, gl, cl, gi, ci, gp, cp, rfl, ho3, hb3⟩
      unfold rfv
      -- the copy's box, and the member is gone
      obtain ⟨X4, hX4⟩ : ∃ X4, X4 = (w3.setCell ⟨gl, k, none⟩ (.bool false)).alloc (.cells #[.slice (some ⟨gu, 0, none⟩) 32 cu, .slice (some ⟨gl, 0, none⟩) 32 cl, .slice (some ⟨gi, 0, none⟩) 32 ci, .slice (some ⟨gp, 0, none⟩) 32 cp] 32) := ⟨_, rfl⟩
      have f0 := (ho3.fz k).2.1
      have c0 : w3.cell? ⟨gl, k, none⟩ = some (.bool ((lvL R).getD k false)) := by
        obtain ⟨b, o, hh, _, _, hc⟩ := (own_inB ho3.l).one (v := Value.bool) (fun _ => rfl) (i := k) hk32
        simp only [Option.some.injEq, Addr.mk.injEq, and_true] at hh
        obtain ⟨rfl, rfl⟩ := hh
        simpa using hc
      have hglt := ho3.lt
      have hne := ho3.ne
      have hgu2 := (ho3.u.lt gu rfl).1
      have hrow := del_rows R hk32
      have H4 : Hid (RfO w2.heap.size X4 gu cu gl cl gi ci gp cp (usL (R.delK k)) (lvL (R.delK k)) (idL (R.delK k)) P ∧ KnP X4 w2.heap.size gp (R.delK k) P ∧ X4.heap[w3.heap.size]? = some (.cells #[.slice (some ⟨gu, 0, none⟩) 32 cu, .slice (some ⟨gl, 0, none⟩) 32 cl, .slice (some ⟨gi, 0, none⟩) 32 ci, .slice (some ⟨gp, 0, none⟩) 32 cp] 32 (0, 0)) ∧ RfI w X4 (.slice ua 32 uc) (.bool true) (.slice la 32 lc) (.bool true) (.slice ia 32 ic) (.bool true) (.slice pa 32 pc) (.bool true) ∧ RfV X4 R (.agg #[.slice ua 32 uc, .slice la 32 lc, .slice ia 32 ic, .slice pa 32 pc]) ∧ w3.heap.size < X4.heap.size ∧ w.heap.size + 1 < w2.heap.size ∧ gp < w3.heap.size) := by
        have hbs : Below w2.heap.size w2 (w3.setCell ⟨gl, k, none⟩ (.bool false)) := hb3.setCell (by show w2.heap.size ≤ gl; omega) _
        have hb4 : Below w2.heap.size w2 X4 := by rw [hX4]; exact below_alloc hbs hbs.size _
        have hr1 := hrow.1; have hr2 := hrow.2.1; have hr3 := hrow.2.2
        refine ⟨?_, ?_, ?_, H2.out.below hb4, (HV.out.1.below H2.out.bel).below hb4, ?_, lt_of_block H2.out.res, hglt.2.2.2⟩
        · rw [hr1, hr2, hr3, hX4]; exact (ho3.setL k false).below (below_one _ _)
        · have hK : KnP w2 w2.heap.size gp R P := by
            intro j hj x hx
            have q := HIN.out.2.2.2.2 j hj x hx
            refine ⟨q.1, q.2.1, q.2.2.below (Nat.le_refl _) bl2.out, fun z hz => .inl ?_⟩
            have hl := HV.out.2.lens j x hx
            rcases q.2.2.row.2.2 with q' | ⟨b, o, ha, hlt, _⟩
            · have := q.2.2.row.1; omega
            · rw [ha] at hz; cases hz; exact Nat.lt_of_lt_of_le hlt bl2.out.size
          exact (hK.below hb4).del k
        · rw [hX4]
          have := heap_alloc_new (w3.setCell ⟨gl, k, none⟩ (.bool false)) (.cells #[.slice (some ⟨gu, 0, none⟩) 32 cu, .slice (some ⟨gl, 0, none⟩) 32 cl, .slice (some ⟨gi, 0, none⟩) 32 ci, .slice (some ⟨gp, 0, none⟩) 32 cp] 32)
          simpa [World.setCell] using this
        · rw [hX4]; simp [World.setCell]
      clear HA s0 s1 s2 s3 sl sf r0 r1 r2 r3 rl ho3 hb3 hrow hgu2 bl2 HIN HW H2
      go_upto_region 7 with fail
      rw [← hX4]
      clear hX4 f0 c0
      obtain ⟨D, hD⟩ : ∃ D, D = R.delK k := ⟨_, rfl⟩
      rw [← hD] at H4
      have HD : Hid (D = R.delK k ∧ (∀ x, D.lives x = true → 0 ≤ x ∧ x < 32)) := ⟨hD, by rw [hD]; exact delK_rng HV.out.2 _⟩
      clear hD
      have HVD : Hid (RfV X4 D (.agg #[.slice (some ⟨gu, 0, none⟩) 32 cu, .slice (some ⟨gl, 0, none⟩) 32 cl, .slice (some ⟨gi, 0, none⟩) 32 ci, .slice (some ⟨gp, 0, none⟩) 32 cp])) := RfO.toV H4.out.1 H4.out.2.1
      obtain ⟨o0, o1, o2, o3, ol⟩ := c4_block H4.out.2.2.1
      go_wp2_with fail
      refine (rlive_r D _ _ HVD.out).mono ?_
      rintro e w5 ⟨a, c, rfl, hin, hnew, hb5⟩
      have hl32 : D.live.length ≤ 32 := liveTo_len D 32
      obtain ⟨nL, hnL⟩ : ∃ nL, nL = D.live.length := ⟨_, rfl⟩
      rw [← hnL] at hin hl32 ⊢
      have HNL : Hid (nL = D.live.length) := hnL
      have H5 : Hid (Below X4.heap.size X4 w5 ∧ InIn w5 a nL D.live) := ⟨hb5, hin⟩
      clear hin hnew hb5 hnL o0 o1 o2 o3 ol
      go_wp2
      go_loopg [28] nL (fun kx s wr => ∃ j : Nat, s = .int .i64 j ∧ j ≤ nL ∧ kx = nL - j ∧ Hid (Below X4.heap.size X4 wr ∧ InIn wr a nL D.live ∧ ∀ i, i < j → headF D.lives (D.know (D.live.getD i 0)).succ ≠ -1))
      case atStart => exact ⟨0, rfl, Nat.zero_le _, rfl, (⟨H5.out.1, H5.out.2, fun i hi => absurd hi (Nat.not_lt_zero _)⟩ : Below _ _ _ ∧ _ ∧ _)⟩
      case round =>
        obtain ⟨j, rfl, hj, rfl, H⟩ := hrel
        clear H5
        have hI := H4.out.2.2.2.1.below H.out.1
        obtain ⟨r0, r1, r2, r3, rl⟩ := c4_block hI.box
        obtain ⟨s0, s1, s2, s3, sl⟩ := c4_block hI.res
        have sf := fz_block hI.res
        obtain ⟨o0, o1, o2, o3, ol⟩ := c4_block ((H.out.1.block _ H4.out.2.2.2.2.2.1).trans H4.out.2.2.1)
        have HI : Hid _ := hI
        clear hI
        by_cases hlt : j < nL
        · have hj0 : (0 : Int) ≤ (j : Int) := Int.natCast_nonneg _
          have hj1 : (j : Int) < (nL : Int) := by omega
          obtain ⟨b, o, ha, hb, hx, hc⟩ := H.out.2.1.one (v := Value.int .i64) (fun _ => rfl) (i := j) hlt
          subst ha
          have hmem : D.live.getD j 0 ∈ D.live := by rw [List.getD_eq_getElem?_getD, List.getElem?_eq_getElem (by have := HNL.out; omega)]; simp
          have hml := (mem_live D _).1 hmem
          obtain ⟨m, hm⟩ : ∃ m : Nat, D.live.getD j 0 = m := ⟨(D.live.getD j 0).toNat, by omega⟩
          have HM : Hid (D.live.getD j 0 = m ∧ D.lives m = true ∧ D.live.getD j 0 ∈ D.live) := ⟨hm, by rw [← hm]; exact hml.2.2, hmem⟩
          have hm32 : m < 32 := by omega
          have hmI : (0 : Int) ≤ (m : Int) ∧ (m : Int) < 32 := by omega
          rw [hm] at hc
          clear hmem hml hm hx
          have ho := H4.out.1.below H.out.1
          obtain ⟨p0, p1, p2⟩ := ho.peer hm32
          have HO : Hid (RfO w2.heap.size wr gu cu gl cl gi ci gp cp (usL D) (lvL D) (idL D) P) := ho
          have hkn : ∃ y, D.kn m = some y := by
            cases hy : D.kn m with
            | none => have := HM.out.2.1; simp [Rg.lives, hy] at this
            | some y => exact ⟨y, rfl⟩
          obtain ⟨y, hy⟩ := hkn
          have hpk := (H4.out.2.1.below H.out.1) m hm32 y hy
          have ek : D.know m = y := by simp [Rg.know, hy]
          generalize (P.getD m pr30).id = mid at p0
          generalize (P.getD m pr30).pred = mpr at p1
          obtain ⟨ma, hma⟩ : ∃ ma, ma = (P.getD m pr30).a := ⟨_, rfl⟩
          obtain ⟨ml, hml⟩ : ∃ ml, ml = (P.getD m pr30).len := ⟨_, rfl⟩
          obtain ⟨mc, hmc⟩ : ∃ mc, mc = (P.getD m pr30).cap := ⟨_, rfl⟩
          rw [← hma, ← hml, ← hmc] at p2
          obtain ⟨hd, hhd⟩ : ∃ hd, hd = headF D.lives (D.know m).succ := ⟨_, rfl⟩
          have HL : Hid (InIn wr ma ml (D.know m).succ ∧ headI (lvL D) (D.know m).succ = hd ∧ hd = headF D.lives (D.know m).succ ∧ (hd < 0 ↔ hd = -1)) := ⟨by rw [ek, hma, hml]; exact hpk.2.2.1.row, by rw [headI_rng HD.out.2, hhd], hhd, by rw [hhd]; exact headF_neg HD.out.2 _⟩
          clear hma hml hmc hhd ek hpk hy ho
          go_upto_region 10 with fail
          obtain ⟨ι, F, _, hF0, hFb, hFc⟩ := grown_fam wr
          have f1 : ∀ i, (F i).cell? ⟨w3.heap.size, 1, none⟩ = _ := fun i => cell_grown o1 (hFb i)
          have f2 : ∀ i, (F i).cell? ⟨w3.heap.size, 2, none⟩ = _ := fun i => cell_grown o2 (hFb i)
          have f3 : ∀ i, (F i).cell? ⟨w3.heap.size, 3, none⟩ = _ := fun i => cell_grown o3 (hFb i)
          have g0 : ∀ i, (F i).cell? ⟨gp, m * 3, none⟩ = _ := fun i => cell_grown p0 (hFb i)
          have g1 : ∀ i, (F i).cell? ⟨gp, m * 3 + 1, none⟩ = _ := fun i => cell_grown p1 (hFb i)
          have g2 : ∀ i, (F i).cell? ⟨gp, m * 3 + 2, none⟩ = _ := fun i => cell_grown p2 (hFb i)
          have HF : Hid ((∃ i, { wr with drawn := wr.drawn + 1 } = F i) ∧ (∀ i, Below wr.heap.size wr (F i)) ∧ (∀ i W, Below wr.heap.size (F i) W → ∃ j, W = F j)) := ⟨hF0, hFb, hFc⟩
          have HR : Hid (∀ i, RfW (F i) (lvL D) (idL D) (.agg #[.slice (some ⟨gl, 0, none⟩) 32 cl, .slice (some ⟨gi, 0, none⟩) 32 ci])) := fun i => (HO.out.below (hFb i)).rfw
          have HLi : Hid (∀ i, InIn (F i) ma ml (D.know m).succ) := fun i => HL.out.1.below (Nat.le_refl _) (hFb i)
          clear hF0 hFb hFc o0 o1 o2 o3 ol p0 p1 p2 r0 r1 r2 r3 rl s0 s1 s2 s3 sl sf hc hb
          refine wp_region_fam F HF.out.1 (by kernel_rfl) (by kernel_rfl) ?_
          repeat (go_big_quiet_step (first
            | (go_at_call 106; refine (rhead_r (lvL D) (idL D) _ _ _ ma ml mc (D.know m).succ _ (HR.out _) (HLi.out _)).mono ?_; rintro e' w' ⟨hs, hb⟩; exact ⟨by rw [hs, HL.out.2.1], HF.out.2.2 _ _ (hb.mono (HF.out.2.1 _).size)⟩)))
          refine wpQuiet_nil ?_
          rintro _ ⟨i, rfl⟩
          have HB6 := HF.out.2.1 i
          have HX : Hid (Below X4.heap.size X4 (F i) ∧ InIn (F i) (some ⟨b, o, none⟩) nL D.live) := ⟨H.out.1.trans (HB6.mono H.out.1.size), H.out.2.1.below (Nat.le_refl _) HB6⟩
          clear f1 f2 f3 g0 g1 g2 HF HR HLi HB6
          generalize F i = W6 at HX ⊢
          by_cases hneg : hd < 0
          · have hI := H4.out.2.2.2.1.below HX.out.1
            obtain ⟨r0, r1, r2, r3, rl⟩ := c4_block hI.box
            obtain ⟨s0, s1, s2, s3, sl⟩ := c4_block hI.res
            have sf := fz_block hI.res
            have ha := ans4 (H4.out.2.2.2.2.1.below HX.out.1) hI.bel hI.res ⟨_, _, _, rfl⟩ ⟨_, _, _, rfl⟩ ⟨_, _, _, rfl⟩ ⟨_, _, _, rfl⟩
            have E : Hid (R.failC k = 5 ∧ R.fail k = R) := by
              have hnd : R.needed k = true := (needed_del HV.out.2 k).2 ⟨D.live.getD j 0, by rw [← HD.out.1]; exact HM.out.2.2, by rw [← HD.out.1, HM.out.1, ← HL.out.2.2.1]; exact HL.out.2.2.2.1 hneg⟩
              have := HLV.out
              refine ⟨by simp [Rg.failC, this, hnd], by simp [Rg.fail, Rg.failC, this, hnd]⟩
            clear hI
            go_wp2
            refine bodyPost_ret (v := .tuple #[.agg #[.slice ua 32 uc, .slice la 32 lc, .slice ia 32 ic, .slice pa 32 pc], .int .i64 5]) (by simp [results, Tryz.results60, go_sem, s0, s1, s2, s3]) rfl ⟨_, by rw [E.out.1], by rw [E.out.2]; exact ha.1, ha.2⟩
          · have HJ : Hid (∀ i, i < j + 1 → headF D.lives (D.know (D.live.getD i 0)).succ ≠ -1) := fun i hi => by
              by_cases e : i = j
              · rw [e, HM.out.1, ← HL.out.2.2.1]; exact fun q => hneg (HL.out.2.2.2.2 q)
              · exact H.out.2.2 i (by omega)
            clear H HL HM
            go_wp2
            go_roundg (nL - (j + 1))
            case measure => omega
            case rel => exact ⟨j + 1, by go_num, by omega, rfl, (⟨HX.out.1, HX.out.2, HJ.out⟩ : Below _ _ _ ∧ _ ∧ _)⟩
        · have hj1 : ¬ (j : Int) < (nL : Int) := by omega
          obtain rfl : j = nL := by omega
          have E : Hid (R.failC k = 0 ∧ R.fail k = D) := by
            have hnd : R.needed k = false := by
              cases hq : R.needed k
              · rfl
              · obtain ⟨m, hm, hh⟩ := (needed_del HV.out.2 k).1 hq
                rw [← HD.out.1] at hm hh
                obtain ⟨i, hi, e⟩ := List.getElem_of_mem hm
                have := H.out.2.2 i (by rw [HNL.out]; exact hi)
                rw [List.getD_eq_getElem?_getD, List.getElem?_eq_getElem hi] at this
                simp only [Option.getD_some] at this
                rw [e] at this
                exact absurd hh this
            have hlv := HLV.out
            have h4' : ¬ ((k : Int) < 4 ∨ R.needed k = true) := by rw [hnd]; simp; omega
            have hc : R.failC k = 0 := by unfold Rg.failC; rw [hlv, if_neg (by simp), if_neg h4']
            exact ⟨hc, by unfold Rg.fail; rw [if_pos hc, HD.out.1]⟩
          have ha := ans4 (HVD.out.below H.out.1) HI.out.bel HI.out.res ⟨_, _, _, rfl⟩ ⟨_, _, _, rfl⟩ ⟨_, _, _, rfl⟩ ⟨_, _, _, rfl⟩
          clear H HI
          go_wp2
          refine bodyPost_ret (v := .tuple #[.agg #[.slice (some ⟨gu, 0, none⟩) 32 cu, .slice (some ⟨gl, 0, none⟩) 32 cl, .slice (some ⟨gi, 0, none⟩) 32 ci, .slice (some ⟨gp, 0, none⟩) 32 cp], .int .i64 0]) (by simp [results, Tryz.results60, go_sem, s0, s1, s2, s3]) rfl ⟨_, by rw [E.out.1], by rw [E.out.2]; exact ha.1, ha.2⟩
end Go.Proofs.YtmajlldfiiokoaaGreatDoor
