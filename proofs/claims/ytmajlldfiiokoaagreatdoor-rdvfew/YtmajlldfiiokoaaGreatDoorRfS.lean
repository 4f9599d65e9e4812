/- wigwagref10.Stabilize. -/
import Derived.Test.YtmajlldfiiokoaaGreatDoorRfB
import Derived.Deep.CutBlock
import Derived.Deep.DeepCutAuto
namespace Go.Proofs.YtmajlldfiiokoaaGreatDoor
open Go.ChangeShapes Go.WideShapes Go.ChangeAt Go.RowKit Go.Deep
set_option linter.unusedVariables false

/-- Both boxes at the start. -/
structure RfI (w W : World) (ua uc la lc ia ic pa pc : Value) : Prop where
  box : W.heap[w.heap.size]? = some (.cells #[ua, la, ia, pa] 32 (0, 0))
  res : W.heap[w.heap.size + 1]? = some (.cells #[.slice none 0 0, .slice none 0 0, .slice none 0 0, .slice none 0 0] 32 (0, 0))
  bel : Below w.heap.size w W
theorem RfI.below {w W W' : World} {ua uc la lc ia ic pa pc : Value} (h : RfI w W ua uc la lc ia ic pa pc) (hb : Below W.heap.size W W') : RfI w W' ua uc la lc ia ic pa pc :=
  ⟨(hb.block _ (lt_of_block h.box)).trans h.box, (hb.block _ (lt_of_block h.res)).trans h.res, h.bel.trans (hb.mono h.bel.size)⟩
theorem RfI.start (w : World) (ua la ia pa : Value) (x : Value) : RfI w ((w.alloc (.cells #[ua, la, ia, pa] 32)).alloc (.cells #[.slice none 0 0, .slice none 0 0, .slice none 0 0, .slice none 0 0] 32)) ua x la x ia x pa x :=
  ⟨by rw [Below.heap_alloc _ _ _ (by simp)]; exact heap_alloc_new w _, by simpa using heap_alloc_new (w.alloc (.cells #[ua, la, ia, pa] 32)) (.cells #[.slice none 0 0, .slice none 0 0, .slice none 0 0, .slice none 0 0] 32), (below_one _ _).trans ((below_one _ _).mono (by simp))⟩
def set4 (w : World) (p : Nat) (v0 v1 v2 v3 : Value) : World := (((w.setCell ⟨p, 0, none⟩ v0).setCell ⟨p, 1, none⟩ v1).setCell ⟨p, 2, none⟩ v2).setCell ⟨p, 3, none⟩ v3
theorem set4_box {w : World} {p : Nat} {c0 c1 c2 c3 : Value} {t : TypeId} (h : w.heap[p]? = some (.cells #[c0, c1, c2, c3] t (0, 0))) (v0 v1 v2 v3 : Value) : (set4 w p v0 v1 v2 v3).heap[p]? = some (.cells #[v0, v1, v2, v3] t (0, 0)) := by
  unfold set4
  have h0 : (w.setCell ⟨p, 0, none⟩ v0).heap[p]? = some (.cells #[v0, c1, c2, c3] t (0, 0)) := by simpa using bx_set (j := 0) h v0
  have h1 : ((w.setCell ⟨p, 0, none⟩ v0).setCell ⟨p, 1, none⟩ v1).heap[p]? = some (.cells #[v0, v1, c2, c3] t (0, 0)) := by simpa using bx_set (j := 1) h0 v1
  have h2 : (((w.setCell ⟨p, 0, none⟩ v0).setCell ⟨p, 1, none⟩ v1).setCell ⟨p, 2, none⟩ v2).heap[p]? = some (.cells #[v0, v1, v2, c3] t (0, 0)) := by simpa using bx_set (j := 2) h1 v2
  simpa using bx_set (j := 3) h2 v3
theorem set4_other {w : World} {p k : Nat} (hk : k ≠ p) (v0 v1 v2 v3 : Value) : (set4 w p v0 v1 v2 v3).heap[k]? = w.heap[k]? := by
  unfold set4
  rw [Below.heap_setCell _ _ _ _ (by simpa using hk), Below.heap_setCell _ _ _ _ (by simpa using hk), Below.heap_setCell _ _ _ _ (by simpa using hk), Below.heap_setCell _ _ _ _ (by simpa using hk)]
theorem set4_size {w : World} {p : Nat} (v0 v1 v2 v3 : Value) : (set4 w p v0 v1 v2 v3).heap.size = w.heap.size := by simp [set4, World.setCell]
theorem set4_below {w W : World} {B p : Nat} (h : Below B w W) (hp : B ≤ p) (v0 v1 v2 v3 : Value) : Below B w (set4 W p v0 v1 v2 v3) := by
  unfold set4
  exact (((h.setCell hp _).setCell hp _).setCell hp _).setCell hp _
/-- The answer is laid. -/
theorem RfV.answer {w W : World} {R : Rg} {v : Value} (h : RfV w R v) (hb : Below w.heap.size w W) : RfV W R v := h.below hb
theorem KnP.set4 {X : World} {B gp : Nat} {R : Rg} {P : List Pr3} (h : KnP X B gp R P) (p : Nat) (hp : B ≤ p ∧ p ≤ gp) (v0 v1 v2 v3 : Value) : KnP (set4 X p v0 v1 v2 v3) B gp R P := (((h.set p 0 hp v0).set p 1 hp v1).set p 2 hp v2).set p 3 hp v3
/-- The ring is copied and put into its box. -/
theorem RfB.start {w W X : World} {B gu cu gl cl gi ci gp cp : Nat} {U L : List Bool} {I : List Int} {P : List Pr3} {u0 u1 u2 u3 y : Value} (hI : RfI w W u0 y u1 y u2 y u3 y) (ho : RfO W.heap.size X gu cu gl cl gi ci gp cp U L I P) (hb : Below W.heap.size W X) :
    RfB w (set4 X w.heap.size (.slice (some ⟨gu, 0, none⟩) 32 cu) (.slice (some ⟨gl, 0, none⟩) 32 cl) (.slice (some ⟨gi, 0, none⟩) 32 ci) (.slice (some ⟨gp, 0, none⟩) 32 cp)) gu cu gl cl gi ci gp cp U L I P := by
  have h' := hI.below hb
  have hlt := lt_of_block hI.res
  have hgu := (ho.u.lt gu rfl).1
  have hn := ho.ne
  refine ⟨set4_box h'.box _ _ _ _, (set4_other (by omega) _ _ _ _).trans h'.res, (ho.kept (fun g hg => set4_other (by omega) _ _ _ _)).low (by omega), set4_below h'.bel (Nat.le_refl _) _ _ _ _, by omega⟩

set_option maxRecDepth 100000 in
set_option maxHeartbeats 4000000 in
theorem rstab_no (R : Rg) (v : Value) (n : Int) (w : World) (h : RfV w R v) (hi : Inv R) (hn : R.lives n = false) :
    Calls Tryz.prog 61 #[v, .int .i64 n] w fun e w' => ∃ v', e = .returned (.tuple #[v', .int .i64 6]) ∧ RfV w' R v' ∧ Below w.heap.size w w' := by
  have HV : Hid (RfV w R v) := h
  obtain ⟨ua, uc, la, lc, ia, ic, pa, pc, P, rfl, h1, h2, h3, h4, h5⟩ := h.ex
  have HW : Hid (RfW w (lvL R) (idL R) (.agg #[.slice la 32 lc, .slice ia 32 ic]) ∧ livesB (lvL R) n = false) := ⟨⟨la, 32, lc, ia, 32, ic, rfl, h2, h3⟩, by rw [livesB_R hi]; exact hn⟩
  clear h h1 h2 h3 h4 h5
  obtain ⟨W1, hW1⟩ : ∃ W1, W1 = (w.alloc (.cells #[.slice ua 32 uc, .slice la 32 lc, .slice ia 32 ic, .slice pa 32 pc] 32)).alloc (.cells #[.slice none 0 0, .slice none 0 0, .slice none 0 0, .slice none 0 0] 32) := ⟨_, rfl⟩
  have H1 : Hid (RfI w W1 (.slice ua 32 uc) (.bool true) (.slice la 32 lc) (.bool true) (.slice ia 32 ic) (.bool true) (.slice pa 32 pc) (.bool true)) := by rw [hW1]; exact RfI.start w _ _ _ _ _
  obtain ⟨r0, r1, r2, r3, rl⟩ := c4_block H1.out.box
  go_enter Tryz.func61, Tryz.ntmps61
  go_upto_region 1 with fail
  rw [← hW1]
  clear hW1
  go_wp2_with fail
  refine (rlives_r _ _ _ _ _ (HW.out.1.below H1.out.bel)).mono ?_
  rintro e w2 ⟨rfl, hb2⟩
  rw [HW.out.2]
  have H2 := H1.out.below hb2
  clear r0 r1 r2 r3 rl
  obtain ⟨r0, r1, r2, r3, rl⟩ := c4_block H2.box
  obtain ⟨s0, s1, s2, s3, sl⟩ := c4_block H2.res
  have sf := fz_block H2.res
  have hbb := H2.bel
  clear H2 hb2 H1
  go_wp2
  have hfin := set4_below hbb (p := w.heap.size + 1) (by omega) (.slice ua 32 uc) (.slice la 32 lc) (.slice ia 32 ic) (.slice pa 32 pc)
  unfold set4 at hfin
  refine bodyPost_ret (v := .tuple #[.agg #[.slice ua 32 uc, .slice la 32 lc, .slice ia 32 ic, .slice pa 32 pc], .int .i64 6]) (by simp [results, Tryz.results61, go_sem, s0, s1, s2, s3]) rfl ⟨_, rfl, HV.out.below hfin, hfin⟩
/-- What a member knows, in its three cells. -/
theorem KnP.at {X : World} {B gp : Nat} {R : Rg} {P : List Pr3} (h : KnP X B gp R P) (hi : Inv R) {k : Nat} (hk : R.lives k = true) : k < 32 ∧ (P.getD k pr30).id = (R.know k).id ∧ (P.getD k pr30).pred = (R.know k).pred ∧ (P.getD k pr30).len = 3 ∧ PeIn X (R.know k).id (R.know k).pred (P.getD k pr30).a 3 (P.getD k pr30).cap (R.know k).succ ∧ ∀ z, (P.getD k pr30).a = some z → z.block < B ∨ gp < z.block := by
  have hk0 := hi.rng _ hk
  have hl := hi.len _ hk
  have hk32 : k < 32 := by omega
  cases hy : R.kn k with
  | none => simp [Rg.lives, hy] at hk
  | some y =>
    have e : R.know k = y := by simp [Rg.know, hy]
    rw [e] at hl ⊢
    have hp := h k hk32 y hy
    have h3 : (P.getD k pr30).len = 3 := by rw [← hp.2.2.1.row.1]; exact hl
    refine ⟨hk32, hp.1, hp.2.1, h3, ?_, hp.2.2.2⟩
    rw [← h3]; exact hp.2.2.1
theorem KnP.ofV {w X : World} {R : Rg} {P : List Pr3} {gp : Nat} (hi : Inv R) (h : ∀ k : Nat, k < 32 → PrOk w (R.kn k) (P.getD k pr30)) (hb : Below w.heap.size w X) : KnP X w.heap.size gp R P := fun k hk x hx => by
  have hp := h k hk x hx
  refine ⟨hp.1, hp.2.1, hp.2.2.below (Nat.le_refl _) hb, fun z hz => .inl ?_⟩
  have hl := hi.lens k x hx
  rcases hp.2.2.row.2.2 with q | ⟨b, o, ha, hlt, _⟩
  · have := hp.2.2.row.1; omega
  · rw [ha] at hz; cases hz; exact hlt

set_option maxRecDepth 100000 in
set_option maxHeartbeats 8000000 in
theorem rstab_yes (R : Rg) (v : Value) (k : Nat) (w : World) (h : RfV w R v) (hi : Inv R) (hn : R.lives k = true) :
    Calls Tryz.prog 61 #[v, .int .i64 (k : Int)] w fun e w' => ∃ v', e = .returned (.tuple #[v', .int .i64 0]) ∧ RfV w' (R.stab k) v' ∧ Below w.heap.size w w' := by
  obtain ⟨ua, uc, la, lc, ia, ic, pa, pc, P, rfl, h1, h2, h3, h4, h5⟩ := h.ex
  have HW : Hid (RfW w (lvL R) (idL R) (.agg #[.slice la 32 lc, .slice ia 32 ic]) ∧ livesB (lvL R) k = true) := ⟨⟨la, 32, lc, ia, 32, ic, rfl, h2, h3⟩, by rw [livesB_R hi]; exact hn⟩
  have HI : Hid (Inv R ∧ R.lives k = true) := ⟨hi, hn⟩
  have HIN : Hid (LvIn w ua 32 (usL R) ∧ LvIn w la 32 (lvL R) ∧ IdIn w ia 32 (idL R) ∧ InRow 3 Pr3.cells Pr3.ok pr30 w pa 32 P ∧ ∀ j : Nat, j < 32 → PrOk w (R.kn j) (P.getD j pr30)) := ⟨h1, h2, h3, h4, h5⟩
  have hk32 : k < 32 := by have := hi.rng _ hn; omega
  clear h h1 h2 h3 h4 h5 hi hn
  obtain ⟨W1, hW1⟩ : ∃ W1, W1 = (w.alloc (.cells #[.slice ua 32 uc, .slice la 32 lc, .slice ia 32 ic, .slice pa 32 pc] 32)).alloc (.cells #[.slice none 0 0, .slice none 0 0, .slice none 0 0, .slice none 0 0] 32) := ⟨_, rfl⟩
  have H1 : Hid (RfI w W1 (.slice ua 32 uc) (.bool true) (.slice la 32 lc) (.bool true) (.slice ia 32 ic) (.bool true) (.slice pa 32 pc) (.bool true)) := by rw [hW1]; exact RfI.start w _ _ _ _ _
  obtain ⟨r0, r1, r2, r3, rl⟩ := c4_block H1.out.box
  go_enter Tryz.func61, Tryz.ntmps61
  go_upto_region 1 with fail
  rw [← hW1]
  clear hW1
  go_wp2_with fail
  refine (rlives_r _ _ _ _ _ (HW.out.1.below H1.out.bel)).mono ?_
  rintro e w2 ⟨rfl, hb2⟩
  rw [HW.out.2]
  have H2 : Hid (RfI w w2 (.slice ua 32 uc) (.bool true) (.slice la 32 lc) (.bool true) (.slice ia 32 ic) (.bool true) (.slice pa 32 pc) (.bool true)) := H1.out.below hb2
  clear r0 r1 r2 r3 rl H1 hb2 HW
  obtain ⟨r0, r1, r2, r3, rl⟩ := c4_block H2.out.box
  have rf := fz_block H2.out.box
  have bl2 : Hid (Below w.heap.size w w2) := H2.out.bel
  go_wp2_with fail
  refine (rcopy_r ua la ia pa uc lc ic pc (usL R) (lvL R) (idL R) P w2 (HIN.out.1.below (Nat.le_refl _) bl2.out) (HIN.out.2.1.below (Nat.le_refl _) bl2.out) (HIN.out.2.2.1.below (Nat.le_refl _) bl2.out) (HIN.out.2.2.2.1.below (Nat.le_refl _) bl2.out)).mono ?_
  rintro e w3 ⟨gu, cu, gl, cl, gi, ci, gp, cp, rfl, ho3, hb3⟩
  obtain ⟨X3, hX3⟩ : ∃ X3, X3 = set4 w3 w.heap.size (.slice (some ⟨gu, 0, none⟩) 32 cu) (.slice (some ⟨gl, 0, none⟩) 32 cl) (.slice (some ⟨gi, 0, none⟩) 32 ci) (.slice (some ⟨gp, 0, none⟩) 32 cp) := ⟨_, rfl⟩
  have H3 : Hid (RfB w X3 gu cu gl cl gi ci gp cp (usL R) (lvL R) (idL R) P ∧ KnP X3 w.heap.size gp R P) := by
    have hB : RfB w X3 gu cu gl cl gi ci gp cp (usL R) (lvL R) (idL R) P := by rw [hX3]; exact RfB.start (B := 0) H2.out ho3 hb3
    exact ⟨hB, KnP.ofV HI.out.1 HIN.out.2.2.2.2 hB.bel⟩
  have h33 := H2.out.below hb3
  clear r0 r1 r2 r3 rl rf
  obtain ⟨r0, r1, r2, r3, rl⟩ := c4_block h33.box
  have rf := fz_block h33.box
  unfold set4 at hX3
  unfold rfv
  clear H2 bl2 HIN ho3 hb3 h33
  go_upto_region 4 with fail
  rw [← hX3]
  clear hX3 r0 r1 r2 r3 rl rf
  have hs0 := HI.out.1.head HI.out.2
  have hnx := HI.out.1.next HI.out.2
  obtain ⟨q0, hq0⟩ : ∃ q0 : Nat, R.head k = q0 := ⟨(R.head k).toNat, by have := HI.out.1.rng _ hs0.1; omega⟩
  obtain ⟨s, hs⟩ : ∃ s : Nat, R.next k = s := ⟨(R.next k).toNat, by have := HI.out.1.rng _ hnx.1; omega⟩
  rw [hq0] at hs0
  rw [hs] at hnx
  have hq32 := HI.out.1.rng _ hs0.1
  have hs32 := HI.out.1.rng _ hnx.1
  have HQ : Hid (R.head k = q0 ∧ R.next k = s ∧ R.lives q0 = true ∧ R.lives s = true ∧ s ≠ k) := ⟨hq0, hs, hs0.1, hnx.1, fun e => hnx.2.2.1 (by rw [e])⟩
  have hq32' : q0 < 32 := by omega
  have hs32' : s < 32 := by omega
  clear hs0 hnx hq0 hs hq32 hs32
  -- the head
  obtain ⟨b0, b1, b2, b3, blt⟩ := c4_block H3.out.1.box
  obtain ⟨p0, p1, p2⟩ := H3.out.1.o.peer hk32
  have hat := H3.out.2.at HI.out.1 HI.out.2
  rw [hat.2.2.2.1] at p2
  generalize (P.getD k pr30).id = kid at p0
  generalize (P.getD k pr30).pred = kpr at p1
  obtain ⟨ka, hka⟩ : ∃ ka, ka = (P.getD k pr30).a := ⟨_, rfl⟩
  obtain ⟨kc, hkc⟩ : ∃ kc, kc = (P.getD k pr30).cap := ⟨_, rfl⟩
  rw [← hka, ← hkc] at p2
  have HL : Hid (InIn X3 ka 3 (R.know k).succ ∧ headI (lvL R) (R.know k).succ = q0) := ⟨by rw [hka]; exact hat.2.2.2.2.1.row, by rw [headI_R HI.out.1, ← HQ.out.1]; unfold Rg.head; rw [HI.out.1.lv]⟩
  clear hka hkc hat
  obtain ⟨ι, F, _, hF0, hFb, hFc⟩ := grown_fam X3
  have f1 : ∀ i, (F i).cell? ⟨w.heap.size, 1, none⟩ = _ := fun i => cell_grown b1 (hFb i)
  have f2 : ∀ i, (F i).cell? ⟨w.heap.size, 2, none⟩ = _ := fun i => cell_grown b2 (hFb i)
  have f3 : ∀ i, (F i).cell? ⟨w.heap.size, 3, none⟩ = _ := fun i => cell_grown b3 (hFb i)
  have g0 : ∀ i, (F i).cell? ⟨gp, k * 3, none⟩ = _ := fun i => cell_grown p0 (hFb i)
  have g1 : ∀ i, (F i).cell? ⟨gp, k * 3 + 1, none⟩ = _ := fun i => cell_grown p1 (hFb i)
  have g2 : ∀ i, (F i).cell? ⟨gp, k * 3 + 2, none⟩ = _ := fun i => cell_grown p2 (hFb i)
  have HF : Hid ((∃ i, { X3 with drawn := X3.drawn + 1 } = F i) ∧ (∀ i, Below X3.heap.size X3 (F i)) ∧ (∀ i W, Below X3.heap.size (F i) W → ∃ j, W = F j)) := ⟨hF0, hFb, hFc⟩
  have HR : Hid (∀ i, RfW (F i) (lvL R) (idL R) (.agg #[.slice (some ⟨gl, 0, none⟩) 32 cl, .slice (some ⟨gi, 0, none⟩) 32 ci])) := fun i => (H3.out.1.o.below (hFb i)).rfw
  have HLi : Hid (∀ i, InIn (F i) ka 3 (R.know k).succ) := fun i => HL.out.1.below (Nat.le_refl _) (hFb i)
  clear hF0 hFb hFc b0 b1 b2 b3 p0 p1 p2
  refine wp_region_fam F HF.out.1 (by kernel_rfl) (by kernel_rfl) ?_
  repeat (go_big_quiet_step (first
    | (go_at_call 106; refine (rhead_r (lvL R) (idL R) _ _ _ ka 3 kc (R.know k).succ _ (HR.out _) (HLi.out _)).mono ?_; rintro e' w' ⟨hs, hb⟩; exact ⟨by rw [hs, HL.out.2], HF.out.2.2 _ _ (hb.mono (HF.out.2.1 _).size)⟩)))
  refine wpQuiet_nil ?_
  rintro _ ⟨i, rfl⟩
  have HB4 := HF.out.2.1 i
  have H4 : Hid (RfB w (F i) gu cu gl cl gi ci gp cp (usL R) (lvL R) (idL R) P ∧ KnP (F i) w.heap.size gp R P) := ⟨H3.out.1.below HB4, H3.out.2.below HB4⟩
  clear f1 f2 f3 g0 g1 g2 HF HR HLi HL H3 HB4 blt
  generalize F i = W4 at H4 ⊢
  -- whom the head knows ahead of it
  obtain ⟨b0, b1, b2, b3, blt⟩ := c4_block H4.out.1.box
  obtain ⟨u0, u1, u2⟩ := H4.out.1.o.peer hq32'
  have hat := H4.out.2.at HI.out.1 HQ.out.2.2.1
  rw [hat.2.2.1] at u1
  obtain ⟨p0, p1, p2⟩ := H4.out.1.o.peer hk32
  have hatk := H4.out.2.at HI.out.1 HI.out.2
  rw [hatk.2.1] at p0
  have hidu : 0 ≤ (R.know k).id ∧ (R.know k).id ≤ 18446744073709551615 := hatk.2.2.2.2.1.hid
  have hnr := nearI_R (q := (R.know q0).pred) (frm := (R.know k).id) HI.out.1 HQ.out.2.2.1
  have hnx : (if R.near (R.know q0).pred (R.know k).id q0 then (R.know q0).pred else (q0 : Int)) = s := by
    have := HQ.out.2.1
    unfold Rg.next at this
    rw [HQ.out.1] at this
    exact this
  generalize (R.know q0).pred = qp at u1 hnr hnx
  generalize (R.know k).id = kid2 at p0 hidu hnr hnx
  generalize R.near qp kid2 q0 = nb at hnr hnx
  have HNR : Hid (nearI (lvL R) (idL R) qp kid2 q0 = nb ∧ 0 ≤ kid2 ∧ kid2 ≤ 18446744073709551615) := ⟨hnr, hidu⟩
  have HNX : Hid ((if nb then qp else (q0 : Int)) = s) := hnx
  clear hat hatk hidu hnr hnx u0 u2 p1 p2
  go_upto_region 6 with fail
  clear u1
  obtain ⟨ι2, F, _, hF0, hFb, hFc⟩ := grown_fam W4
  have f1 : ∀ i, (F i).cell? ⟨w.heap.size, 1, none⟩ = _ := fun i => cell_grown b1 (hFb i)
  have f2 : ∀ i, (F i).cell? ⟨w.heap.size, 2, none⟩ = _ := fun i => cell_grown b2 (hFb i)
  have f3 : ∀ i, (F i).cell? ⟨w.heap.size, 3, none⟩ = _ := fun i => cell_grown b3 (hFb i)
  have g0 : ∀ i, (F i).cell? ⟨gp, k * 3, none⟩ = _ := fun i => cell_grown p0 (hFb i)
  have HF : Hid ((∃ i, { W4 with drawn := W4.drawn + 1 } = F i) ∧ (∀ i, Below W4.heap.size W4 (F i)) ∧ (∀ i W, Below W4.heap.size (F i) W → ∃ j, W = F j)) := ⟨hF0, hFb, hFc⟩
  have HR : Hid (∀ i, RfW (F i) (lvL R) (idL R) (.agg #[.slice (some ⟨gl, 0, none⟩) 32 cl, .slice (some ⟨gi, 0, none⟩) 32 ci])) := fun i => (H4.out.1.o.below (hFb i)).rfw
  clear hF0 hFb hFc b0 b1 b2 b3 p0
  refine wp_region_fam F HF.out.1 (by kernel_rfl) (by kernel_rfl) ?_
  repeat (go_big_quiet_step (first
    | (go_at_call 111; refine (rnearer_r (lvL R) (idL R) _ qp kid2 _ _ (HR.out _) HNR.out.2).mono ?_; rintro e' w' ⟨hs, hb⟩; exact ⟨by rw [hs, HNR.out.1], HF.out.2.2 _ _ (hb.mono (HF.out.2.1 _).size)⟩)))
  refine wpQuiet_nil ?_
  rintro _ ⟨i2, rfl⟩
  have HB6 := HF.out.2.1 i2
  have H6 : Hid (RfB w (F i2) gu cu gl cl gi ci gp cp (usL R) (lvL R) (idL R) P ∧ KnP (F i2) w.heap.size gp R P) := ⟨H4.out.1.below HB6, H4.out.2.below HB6⟩
  clear f1 f2 f3 g0 HF HR H4 HB6 blt HNR
  generalize F i2 = W6 at H6 ⊢
  go_upto_if 40 with fail
  go_cut [6] (fun v wx => v = .int .i64 (s : Int) ∧ W6 = wx)
  case first =>
    cases nb
    · go_wp2
      go_meet
      exact ⟨congrArg (Value.int .i64) HNX.out, rfl⟩
    · go_wp2
      go_meet
      exact ⟨congrArg (Value.int .i64) HNX.out, rfl⟩
  case rest =>
    obtain ⟨rfl, hwx⟩ := hcut
    subst hwx
    clear HNX
    -- the list
    obtain ⟨b0, b1, b2, b3, blt⟩ := c4_block H6.out.1.box
    obtain ⟨u0, u1, u2⟩ := H6.out.1.o.peer hs32'
    obtain ⟨p0, p1, p2⟩ := H6.out.1.o.peer hk32
    have hat := H6.out.2.at HI.out.1 HQ.out.2.2.2.1
    have hn4 := H6.out.1.o.ne
    have hglt := H6.out.1.o.lt
    have hlow := H6.out.1.lo
    rw [hat.2.1] at u0
    rw [hat.2.2.1] at u1
    rw [hat.2.2.2.1] at u2
    obtain ⟨sa, hsa⟩ : ∃ sa, sa = (P.getD s pr30).a := ⟨_, rfl⟩
    obtain ⟨sc, hsc⟩ : ∃ sc, sc = (P.getD s pr30).cap := ⟨_, rfl⟩
    obtain ⟨sid, hsid⟩ : ∃ sid, sid = (R.know s).id := ⟨_, rfl⟩
    obtain ⟨spr, hspr⟩ : ∃ spr, spr = (R.know s).pred := ⟨_, rfl⟩
    rw [← hsa, ← hsc] at u2
    rw [← hsid] at u0
    rw [← hspr] at u1
    have HS : Hid (sa = (P.getD s pr30).a ∧ sc = (P.getD s pr30).cap ∧ sid = (R.know s).id ∧ spr = (R.know s).pred ∧ (P.getD s pr30).len = 3 ∧ (P.getD s pr30).id = sid ∧ (P.getD s pr30).pred = spr ∧ (0 ≤ sid ∧ sid ≤ 18446744073709551615) ∧ (-9223372036854775808 ≤ spr ∧ spr ≤ 9223372036854775807) ∧ P.length = 32) := ⟨hsa, hsc, hsid, hspr, hat.2.2.2.1, hat.2.1.trans hsid.symm, hat.2.2.1.trans hspr.symm, by rw [hsid]; exact hat.2.2.2.2.1.hid, by rw [hspr]; exact hat.2.2.2.2.1.hpred, H6.out.1.o.len.2.2.2⟩
    have hrow : InIn W6 sa 3 (R.know s).succ := by rw [hsa]; exact hat.2.2.2.2.1.row
    have HFO : Hid (∀ W, Below W6.heap.size W6 W → Calls Tryz.prog 112 #[.int .i64 (s : Int), .agg #[.int .u64 sid, .int .i64 spr, .slice sa 3 sc]] W fun e w' => ∃ a' c', e = .returned (.slice a' 3 c') ∧ InIn w' a' 3 ((s : Int) :: (R.know s).succ.take 2) ∧ 3 ≤ c' ∧ c' ≤ 9223372036854775807 ∧ (∀ x, a' = some x → W.heap.size ≤ x.block) ∧ Below W.heap.size W w') := fun W hW => by
      refine (rfollow_r (s : Int) (.int .u64 sid) (.int .i64 spr) sa 3 sc (R.know s).succ W (hrow.below (Nat.le_refl _) hW) (by unfold i64; omega) (by omega)).mono ?_
      rintro e w' ⟨a', c', rfl, h⟩
      exact ⟨a', c', rfl, h⟩
    have f2 := (H6.out.1.o.fz (k * 3 + 2)).2.2.2
    have hsI : (0 : Int) ≤ (s : Int) ∧ (s : Int) < 32 := by omega
    have hkI : (0 : Int) ≤ (k : Int) ∧ (k : Int) < 32 := by omega
    clear hat hsa hsc hsid hspr hrow
    go_upto_region 8 with fail
    go_cut [] (fun wx => ∃ w8 a' c', Hid (wx = World.setCell w8 ⟨gp, k * 3 + 2, none⟩ (.slice a' 3 c') ∧ Below W6.heap.size W6 w8 ∧ InIn w8 a' 3 ((s : Int) :: (R.know s).succ.take 2) ∧ 3 ≤ c' ∧ c' ≤ 9223372036854775807 ∧ ∀ x, a' = some x → W6.heap.size ≤ x.block))
    case first =>
      go_region_law
        ((go_simp; go_at_call 112; refine Calls.mono (HFO.out _ (by exact ⟨rfl, rfl, rfl, Nat.le_refl _, fun _ _ => rfl⟩)) ?_; rintro e w8 ⟨a', c', rfl, hin, hc1, hc2, hnew, hb8⟩
          have B8 : Below W6.heap.size W6 w8 := ⟨hb8.os, hb8.tape, hb8.output, hb8.size, hb8.block⟩
          have y3 := cell_grown b3 B8
          have y2 := cell_grown p2 B8
          have z2 : w8.frozen? ⟨gp, k * 3 + 2, none⟩ = false := (World.frozen?_of_block (a := ⟨gp, k * 3 + 2, none⟩) (B8.block gp hglt.2.2.2)).trans f2
          have yl := cell_block y3
          have yl2 := cell_block y2))
      all_goals (try go_wp2_with fail)
      all_goals go_meet
      all_goals exact ⟨w8, a', c', rfl, B8, hin, hc1, hc2, hnew⟩
    case rest =>
      rename World => X8
      obtain ⟨w8, a', c', HC⟩ := hcut
      have HB8 : Hid (RfB w X8 gu cu gl cl gi ci gp cp (usL R) (lvL R) (idL R) (P.set k ⟨(P.getD k pr30).id, (P.getD k pr30).pred, a', 3, c'⟩) ∧ KnP X8 w.heap.size gp R P ∧ InIn X8 a' 3 ((s : Int) :: (R.know s).succ.take 2) ∧ 3 ≤ c' ∧ c' ≤ 9223372036854775807 ∧ (∀ x, a' = some x → gp < x.block)) := by
        have hq := HC.out
        have hlt : ∀ x, a' = some x → gp < x.block := fun x hx => by have := hq.2.2.2.2.2 x hx; omega
        rw [hq.1]
        have hm : P.getD k pr30 ∈ P := by rw [List.getD_eq_getElem?_getD, List.getElem?_eq_getElem (by have := HS.out.2.2.2.2.2.2.2.2.2; omega)]; simp
        refine ⟨(H6.out.1.below hq.2.1).setP hk32 (by omega) _ _ rfl (show (⟨(P.getD k pr30).id, (P.getD k pr30).pred, a', 3, c'⟩ : Pr3).ok from H6.out.1.o.ok.2 (P.getD k pr30) hm), (H6.out.2.below hq.2.1).set gp _ ⟨by omega, Nat.le_refl _⟩ _, hq.2.2.1.setCell (fun x hx => by have := hlt x hx; omega) _, hq.2.2.2.1, hq.2.2.2.2.1, hlt⟩
      clear HC b0 b1 b2 b3 u0 u1 u2 p0 p1 p2 f2 HFO blt H6
      -- the other one is told
      have hne := HQ.out.2.2.2.2
      have hPl : (P.set k ⟨(P.getD k pr30).id, (P.getD k pr30).pred, a', 3, c'⟩).getD s pr30 = P.getD s pr30 := by rw [getD_set3 _ _ _ _ (by have := HS.out.2.2.2.2.2.2.2.2.2; omega), if_neg hne]
      obtain ⟨b0, b1, b2, b3, blt⟩ := c4_block HB8.out.1.box
      obtain ⟨u0, u1, u2⟩ := HB8.out.1.o.peer hs32'
      rw [hPl, HS.out.2.2.2.2.2.1] at u0
      rw [hPl, HS.out.2.2.2.2.2.2.1] at u1
      rw [hPl, HS.out.2.2.2.2.1, ← HS.out.1, ← HS.out.2.1] at u2
      have hglt8 := HB8.out.1.o.lt
      have e0 := (HB8.out.1.o.fz (s * 3)).2.2.2
      have e1 := (HB8.out.1.o.fz (s * 3 + 1)).2.2.2
      have e2 := (HB8.out.1.o.fz (s * 3 + 2)).2.2.2
      obtain ⟨rr, hrr⟩ : ∃ rr, rr = R.rect sid spr k := ⟨_, rfl⟩
      have HRR : Hid (rr = R.rect sid spr k) := hrr
      have HRC : Hid (∀ W, Below X8.heap.size X8 W → Calls Tryz.prog 113 #[.agg #[.int .u64 sid, .int .i64 spr, .slice sa 3 sc], .int .i64 (k : Int), .agg #[.slice (some ⟨gl, 0, none⟩) 32 cl, .slice (some ⟨gi, 0, none⟩) 32 ci]] W fun e w' => e = .returned (.agg #[.int .u64 sid, .int .i64 rr, .slice sa 3 sc]) ∧ Below W.heap.size W w') := fun W hW => by
        rw [hrr, ← rectR_R HI.out.1 HI.out.2]
        exact rrect_r (lvL R) (idL R) _ sid spr k sa 3 sc W (HB8.out.1.o.below hW).rfw HS.out.2.2.2.2.2.2.2.1
      clear hrr hPl hne
      go_upto_region 9 with fail
      go_cut [] (fun wx => ∃ w9, Hid (wx = World.setCell (World.setCell (World.setCell w9 ⟨gp, s * 3, none⟩ (.int .u64 sid)) ⟨gp, s * 3 + 1, none⟩ (.int .i64 rr)) ⟨gp, s * 3 + 2, none⟩ (.slice sa 3 sc) ∧ Below X8.heap.size X8 w9))
      case first =>
        go_region_law
          ((go_simp; go_at_call 113; refine Calls.mono (HRC.out _ (by exact ⟨rfl, rfl, rfl, Nat.le_refl _, fun _ _ => rfl⟩)) ?_; rintro e w9 ⟨rfl, hb9⟩
            have B9 : Below X8.heap.size X8 w9 := ⟨hb9.os, hb9.tape, hb9.output, hb9.size, hb9.block⟩
            have y3 := cell_grown b3 B9
            have v0 := cell_grown u0 B9
            have v1 := cell_grown u1 B9
            have v2 := cell_grown u2 B9
            have z0 : w9.frozen? ⟨gp, s * 3, none⟩ = false := (World.frozen?_of_block (a := ⟨gp, s * 3, none⟩) (B9.block gp hglt8.2.2.2)).trans e0
            have z1 : w9.frozen? ⟨gp, s * 3 + 1, none⟩ = false := (World.frozen?_of_block (a := ⟨gp, s * 3 + 1, none⟩) (B9.block gp hglt8.2.2.2)).trans e1
            have z2 : w9.frozen? ⟨gp, s * 3 + 2, none⟩ = false := (World.frozen?_of_block (a := ⟨gp, s * 3 + 2, none⟩) (B9.block gp hglt8.2.2.2)).trans e2
            have yl := cell_block y3
            have yl2 := cell_block v0))
        all_goals (try go_wp2_with fail)
        all_goals go_meet
        all_goals exact ⟨w9, rfl, B9⟩
      case rest =>
        rename World => X9
        obtain ⟨w9, HC⟩ := hcut
        have hfin : RfB w X9 gu cu gl cl gi ci gp cp (usL (R.stab k)) (lvL (R.stab k)) (idL (R.stab k)) ((P.set k ⟨(P.getD k pr30).id, (P.getD k pr30).pred, a', 3, c'⟩).set s ⟨(P.getD s pr30).id, R.rect (R.know s).id (R.know s).pred k, (P.getD s pr30).a, (P.getD s pr30).len, (P.getD s pr30).cap⟩) ∧ KnP X9 w.heap.size gp (R.stab k) ((P.set k ⟨(P.getD k pr30).id, (P.getD k pr30).pred, a', 3, c'⟩).set s ⟨(P.getD s pr30).id, R.rect (R.know s).id (R.know s).pred k, (P.getD s pr30).a, (P.getD s pr30).len, (P.getD s pr30).cap⟩) := by
          obtain ⟨hX, hb9⟩ := HC.out
          obtain ⟨hB, hK, hL, hc1, hc2, hcl⟩ := HB8.out
          have hS := HS.out
          have hstr := stab_rows HI.out.1 HI.out.2
          have hlen := hS.2.2.2.2.2.2.2.2.2
          have hB9 := hB.below hb9
          have hlen1 : (P.set k ⟨(P.getD k pr30).id, (P.getD k pr30).pred, a', 3, c'⟩).length = 32 := by rw [List.length_set]; exact hlen
          have hP1 : (P.set k ⟨(P.getD k pr30).id, (P.getD k pr30).pred, a', 3, c'⟩).getD s pr30 = ⟨sid, spr, sa, 3, sc⟩ := by
            rw [getD_set3 _ _ _ _ (by omega), if_neg HQ.out.2.2.2.2]
            have e1 := hS.2.2.2.2.2.1; have e2 := hS.2.2.2.2.2.2.1; have e3 := hS.1; have e4 := hS.2.1; have e5 := hS.2.2.2.2.1
            cases hq : P.getD s pr30 with
            | mk a1 a2 a3 a4 a5 => rw [hq] at e1 e2 e3 e4 e5; simp only at e1 e2 e3 e4 e5; subst e1 e2 e3 e4 e5; rfl
          have hK9 : KnP X9 w.heap.size gp R P := by
            rw [hX]
            have hp : w.heap.size ≤ gp ∧ gp ≤ gp := ⟨by omega, Nat.le_refl _⟩
            exact (((hK.below hb9).set gp _ hp _).set gp _ hp _).set gp _ hp _
          have hL9 : InIn X9 a' 3 ((s : Int) :: (R.know s).succ.take 2) := by
            rw [hX]
            have hp : ∀ x, a' = some x → x.block ≠ gp := fun x hx => by have := hcl x hx; omega
            exact (((hL.below (Nat.le_refl _) hb9).setCell hp _).setCell hp _).setCell hp _
          have hKs := hK9.stab HI.out.1 hlen HI.out.2 HQ.out.2.1 a' c' hL9 hc1 hc2 (fun z hz => .inr (hcl z hz)) (fun e => by
            rcases hL9.2.2 with q | ⟨b, o, ha, _⟩
            · omega
            · rw [e] at ha; cases ha)
          refine ⟨?_, hKs⟩
          clear hKs hK9 hL9
          generalize (P.set k ⟨(P.getD k pr30).id, (P.getD k pr30).pred, a', 3, c'⟩) = P1 at hB9 hP1 hlen1 ⊢
          have hrok : i64 rr := by
            rw [HRR.out]
            rcases rect_or R sid spr k with q | q
            · rw [q]; show -9223372036854775808 ≤ (k : Int) ∧ (k : Int) ≤ 9223372036854775807; omega
            · rw [q]; exact hS.2.2.2.2.2.2.2.2.1
          have s1 := hB9.setP (k := s) (j := 0) hs32' (by omega) (.int .u64 sid) ⟨sid, spr, sa, 3, sc⟩ (by rw [hP1]; rfl) ⟨hS.2.2.2.2.2.2.2.1, hS.2.2.2.2.2.2.2.2.1⟩
          have g1 : (P1.set s ⟨sid, spr, sa, 3, sc⟩).getD s pr30 = ⟨sid, spr, sa, 3, sc⟩ := by rw [getD_set3 _ _ _ _ (by omega), if_pos rfl]
          have s2 := s1.setP (k := s) (j := 1) hs32' (by omega) (.int .i64 rr) ⟨sid, rr, sa, 3, sc⟩ (by rw [g1]; rfl) ⟨hS.2.2.2.2.2.2.2.1, hrok⟩
          have g2 : ((P1.set s ⟨sid, spr, sa, 3, sc⟩).set s ⟨sid, rr, sa, 3, sc⟩).getD s pr30 = ⟨sid, rr, sa, 3, sc⟩ := by rw [getD_set3 _ _ _ _ (by rw [List.length_set]; omega), if_pos rfl]
          have s3 := s2.setP (k := s) (j := 2) hs32' (by omega) (.slice sa 3 sc) ⟨sid, rr, sa, 3, sc⟩ (by rw [g2]; rfl) ⟨hS.2.2.2.2.2.2.2.1, hrok⟩
          rw [Nat.add_zero, List.set_set, List.set_set] at s3
          have eq2 : (⟨(P.getD s pr30).id, R.rect (R.know s).id (R.know s).pred k, (P.getD s pr30).a, (P.getD s pr30).len, (P.getD s pr30).cap⟩ : Pr3) = ⟨sid, rr, sa, 3, sc⟩ := by
            rw [HRR.out, hS.2.2.2.2.2.1, hS.2.2.2.2.1, ← hS.1, ← hS.2.1, ← hS.2.2.1, ← hS.2.2.2.1]
          rw [hstr.1, hstr.2.1, hstr.2.2]
          rw [hX, eq2]
          exact s3
        have HE : Hid _ := hfin
        clear hfin HC HB8 HS HRR HRC b0 b1 b2 b3 blt u0 u1 u2 e0 e1 e2
        obtain ⟨b0, b1, b2, b3, blt⟩ := c4_block HE.out.1.box
        obtain ⟨s0, s1, s2, s3, sl⟩ := c4_block HE.out.1.res
        have sf := fz_block HE.out.1.res
        go_wp2
        have hlo := HE.out.1.lo
        have hnn := HE.out.1.o.ne
        have hb := set4_below HE.out.1.bel (p := w.heap.size + 1) (by omega) (.slice (some ⟨gu, 0, none⟩) 32 cu) (.slice (some ⟨gl, 0, none⟩) 32 cl) (.slice (some ⟨gi, 0, none⟩) 32 ci) (.slice (some ⟨gp, 0, none⟩) 32 cp)
        have hv := RfO.toV (HE.out.1.o.kept (w' := set4 X9 (w.heap.size + 1) (.slice (some ⟨gu, 0, none⟩) 32 cu) (.slice (some ⟨gl, 0, none⟩) 32 cl) (.slice (some ⟨gi, 0, none⟩) 32 ci) (.slice (some ⟨gp, 0, none⟩) 32 cp)) (fun g hg => set4_other (by omega) _ _ _ _)) (HE.out.2.set4 (w.heap.size + 1) ⟨by omega, by omega⟩ _ _ _ _)
        unfold set4 at hb hv
        refine bodyPost_ret (v := .tuple #[rfv gu cu gl cl gi ci gp cp, .int .i64 0]) (by simp [results, Tryz.results61, go_sem, rfv, s0, s1, s2, s3]) rfl ⟨_, rfl, hv, hb⟩

theorem rstab_r (R : Rg) (v : Value) (n : Int) (w : World) (h : RfV w R v) (hi : Inv R) :
    Calls Tryz.prog 61 #[v, .int .i64 n] w fun e w' => ∃ v', e = .returned (.tuple #[v', .int .i64 (R.stabC n)]) ∧ RfV w' (R.stab n) v' ∧ Below w.heap.size w w' := by
  cases hn : R.lives n with
  | false =>
    have e1 : R.stabC n = 6 := by simp [Rg.stabC, hn]
    have e2 : R.stab n = R := by simp [Rg.stab, hn]
    rw [e1, e2]
    exact rstab_no R v n w h hi hn
  | true =>
    have e1 : R.stabC n = 0 := by simp [Rg.stabC, hn]
    have h0 := hi.rng _ hn
    obtain ⟨k, rfl⟩ : ∃ k : Nat, n = k := ⟨n.toNat, by omega⟩
    rw [e1]
    exact rstab_yes R v k w h hi hn
end Go.Proofs.YtmajlldfiiokoaaGreatDoor
