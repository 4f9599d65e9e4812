/- Subscribe, Unsubscribe, Same, has. -/
import Derived.Test.YtkncpojijfeahaaGreatDoorBkDo
namespace Go.Proofs.YtkncpojijfeahaaGreatDoor
open Go.ChangeShapes Go.WideShapes Go.ChangeAt Go.RowKit Go.Deep
open Go.ChangeMaps (setBlock)
set_option linter.unusedVariables false

theorem b_drewa (w : World) (o : Obj) : Below w.heap.size w (w.drew.alloc o) := (b_drew w).trans (show Below w.heap.size w.drew (w.drew.alloc o) from b_one w.drew o)
/-- What Subscribe answers. -/
def BSub (e : Ending) (w' : World) (p ge gs gg : Nat) (S : List At) (E : List Bev) (U : List Bsb) (G : List Bgf) (x : Bsb) (cd pl : Int) : Prop :=
  (cd ≠ 0 ∧ (∃ N, e = .returned (.iface 129 (.pointer (some ⟨N, 0, none⟩))) ∧ FaultAt w' N pl cd) ∧ BdAt w' p ge gs gg S E U G) ∨
  (cd = 0 ∧ ¬ FilterOk S x.ps ∧ (∃ N, e = .returned (.iface 129 (.pointer (some ⟨N, 0, none⟩))) ∧ FaultIn w' N) ∧ BdAt w' p ge gs gg S E U G) ∨
  (cd = 0 ∧ FilterOk S x.ps ∧ (∃ y ∈ U, y.key = x.key) ∧ e = .returned (.iface 52 (.int .i64 5)) ∧ BdAt w' p ge gs gg S E U G) ∨
  (cd = 0 ∧ FilterOk S x.ps ∧ (∀ y ∈ U, y.key ≠ x.key) ∧ e = .returned .nilIface ∧ BdAt w' p ge gs gg S E (U ++ [x]) G)

set_option maxRecDepth 100000 in
set_option maxHeartbeats 4000000 in
theorem bsub_any (p ge gs gg : Nat) (S : List At) (E : List Bev) (U : List Bsb) (G : List Bgf) (nd id : Int) (s : ByteArray) (ps : List Pl) (cd pl : Int) (w : World) (h : BdAt w p ge gs gg S E U G) (hE : Env w) (hn : ps.length ≤ 1000) (hp : ∀ x ∈ ps, PrnL x) (hT : TwoQ s ps cd pl) :
    Calls Tryz.prog 10 #[.pointer (some ⟨p, 0, none⟩), .agg #[.int .i64 nd, .int .i64 id], .string s] w fun e w' => BSub e w' p ge gs gg S E U G ⟨(nd, id), ps.map pdOf⟩ cd pl ∧ Kb w w' ge gs gg := by
  obtain ⟨W1, hW1⟩ : ∃ W1, W1 = w.alloc (.cells #[.int .i64 nd, .int .i64 id] 44) := ⟨_, rfl⟩
  have b1 : Below w.heap.size w W1 := by rw [hW1]; exact b_one _ _
  have x0 : W1.cell? ⟨w.heap.size, 0, none⟩ = some (.int .i64 nd) := by rw [hW1]; exact World.cell?_alloc_new ..
  have x1 : W1.cell? ⟨w.heap.size, 1, none⟩ = some (.int .i64 id) := by rw [hW1]; simp
  have hsl : S.length ≤ 1000 := by have := h.sok.2.1; omega
  obtain ⟨sa, sc, hsA, c0, c1, c2, c3, cl⟩ := (h.below b1).cells
  have H1 : Hid (BdAt W1 p ge gs gg S E U G ∧ AtIn W1 (.slice sa S.length sc) S ∧ Env W1 ∧ Below w.heap.size w W1) := ⟨h.below b1, hsA, hE.below b1 hE.lt, b1⟩
  have HRD : Hid (∀ W, Below W1.heap.size W1 W → Calls Tryz.prog 24 #[.slice sa S.length sc, .string s] W fun e w' => ∃ u er, e = .returned (.tuple #[u, er]) ∧ ReadAns w' u er S ps cd pl ∧ Below W.heap.size W w') := fun W hW =>
    read_any _ S s ps cd pl W (H1.out.2.2.1.below hW H1.out.2.2.1.lt) (H1.out.2.1.below hW) hsl hn hp hT
  clear h hE hn hp hT b1 hsA
  generalize hq : w.heap.size = q at x0 x1
  have xl := cell_block x0
  go_enter Tryz.func10, Tryz.ntmps10
  go_upto_region 1 with fail
  rw [← hW1]
  try rw [hq]
  clear hW1 hq
  go_wp2_with fail
  refine Calls.mono (HRD.out _ (Below.refl _ _)) ?_
  rintro e w2 ⟨u, er, rfl, hR, b2⟩
  have y0 := cell_grown x0 b2
  have y1 := cell_grown x1 b2
  have yl := cell_block y0
  have H2 : Hid (BdAt w2 p ge gs gg S E U G ∧ Below w.heap.size w w2) := ⟨H1.out.1.below b2, H1.out.2.2.2.trans (b2.mono H1.out.2.2.2.size)⟩
  clear x0 x1 xl c0 c1 c2 c3 cl b2 HRD
  rcases hR with ⟨h0, rfl, N, rfl, hF⟩ | ⟨h0, hno, rfl, N, rfl, hF⟩ | ⟨h0, hok, rfl, hP⟩
  · have HF : Hid (cd ≠ 0 ∧ FaultAt w2 N pl cd) := ⟨h0, hF⟩
    clear h0 hF
    go_wp2
    go_ret
    exact ⟨.inl ⟨HF.out.1, ⟨N, rfl, HF.out.2⟩, H2.out.1⟩, Kb.ofBelow H2.out.2⟩
  · have HF : Hid (cd = 0 ∧ ¬ FilterOk S (ps.map pdOf) ∧ FaultIn w2 N) := ⟨h0, hno, hF⟩
    clear h0 hF hno
    go_wp2
    go_ret
    exact ⟨.inr (.inl ⟨HF.out.1, HF.out.2.1, ⟨N, rfl, HF.out.2.2⟩, H2.out.1⟩), Kb.ofBelow H2.out.2⟩
  · obtain ⟨fa, fc, rfl, _⟩ := hP.shape
    have HF : Hid (cd = 0 ∧ FilterOk S (ps.map pdOf) ∧ PdIn w2 (.slice fa ps.length fc) (ps.map pdOf)) := ⟨h0, hok, PdIn.ofPl hP⟩
    clear h0 hok hP
    obtain ⟨sa2, sc2, _, c0, c1, c2, c3, cl⟩ := H2.out.1.cells
    have HD : Hid (BdAt w2.drew p ge gs gg S E U G ∧ Below w.heap.size w w2.drew) := ⟨H2.out.1.drew, H2.out.2.trans ((b_drew w2).mono H2.out.2.size)⟩
    rcases H2.out.1.ask_sb (nd, id) with ⟨hno, hlk⟩ | ⟨y, ya, yc, hy, hk, _, hlk⟩
    · have hlk2 := hlk w2.drew (b_drew w2)
      simp only at hlk2
      have b2d : Below w2.heap.size w2 w2.drew.drew := (b_drew w2).trans (b_drew w2.drew)
      obtain ⟨w5, hput, p2, p3⟩ := (H2.out.1.below b2d).put_sb (nd, id) hno (HF.out.2.2.below b2d) HF.out.2.1
      simp only at hput
      have H5 : Hid ((∀ y ∈ U, y.key ≠ (nd, id)) ∧ BdAt w5 p ge gs gg S E (U ++ [⟨(nd, id), ps.map pdOf⟩]) G ∧ Kb w w5 ge gs gg) := ⟨hno, p2, (Kb.ofBelow (H2.out.2.trans (b2d.mono H2.out.2.size))).trans p3⟩
      clear hno hlk p2 p3 b2d
      go_wp2
      go_region
      go_wp2
      go_region
      go_wp2
      go_ret
      exact ⟨.inr (.inr (.inr ⟨HF.out.1, HF.out.2.1, H5.out.1, rfl, H5.out.2.1⟩)), H5.out.2.2⟩
    · have hlk2 := hlk w2.drew (b_drew w2)
      simp only at hlk2
      have HY : Hid (∃ y ∈ U, y.key = (nd, id)) := ⟨y, hy, hk⟩
      clear hlk hy hk
      generalize y.ps.length = yn at hlk2
      go_wp2
      go_region
      go_wp2
      go_ret
      exact ⟨.inr (.inr (.inl ⟨HF.out.1, HF.out.2.1, HY.out, rfl, HD.out.1⟩)), Kb.ofBelow HD.out.2⟩

/-- What Unsubscribe answers. -/
def BUns (e : Ending) (w' : World) (p ge gs gg : Nat) (S : List At) (E : List Bev) (U : List Bsb) (G : List Bgf) (k : Int × Int) : Prop :=
  ((∀ y ∈ U, y.key ≠ k) ∧ e = .returned (.iface 52 (.int .i64 9)) ∧ BdAt w' p ge gs gg S E U G) ∨
  ((∃ y ∈ U, y.key = k) ∧ e = .returned .nilIface ∧ BdAt w' p ge gs gg S E (U.filter fun u => u.key ≠ k) G)

set_option maxRecDepth 100000 in
set_option maxHeartbeats 4000000 in
theorem buns_any (p ge gs gg : Nat) (S : List At) (E : List Bev) (U : List Bsb) (G : List Bgf) (nd id : Int) (w : World) (h : BdAt w p ge gs gg S E U G) :
    Calls Tryz.prog 12 #[.pointer (some ⟨p, 0, none⟩), .agg #[.int .i64 nd, .int .i64 id]] w fun e w' => BUns e w' p ge gs gg S E U G (nd, id) ∧ Kb w w' ge gs gg := by
  obtain ⟨W1, hW1⟩ : ∃ W1, W1 = w.alloc (.cells #[.int .i64 nd, .int .i64 id] 44) := ⟨_, rfl⟩
  have b1 : Below w.heap.size w W1 := by rw [hW1]; exact b_one _ _
  have y0 : W1.cell? ⟨w.heap.size, 0, none⟩ = some (.int .i64 nd) := by rw [hW1]; exact World.cell?_alloc_new ..
  have y1 : W1.cell? ⟨w.heap.size, 1, none⟩ = some (.int .i64 id) := by rw [hW1]; simp
  obtain ⟨sa, sc, _, c0, c1, c2, c3, cl⟩ := (h.below b1).cells
  have H2 : Hid (BdAt W1 p ge gs gg S E U G ∧ Below w.heap.size w W1) := ⟨h.below b1, b1⟩
  clear h b1
  generalize hq : w.heap.size = q at y0 y1
  have yl := cell_block y0
  have HD : Hid (BdAt W1.drew p ge gs gg S E U G ∧ Below w.heap.size w W1.drew) := ⟨H2.out.1.drew, H2.out.2.trans ((b_drew W1).mono H2.out.2.size)⟩
  rcases H2.out.1.ask_sb (nd, id) with ⟨hno, hlk⟩ | ⟨y, ya, yc, hy, hk, _, hlk⟩
  · have hlk2 := hlk W1.drew (b_drew W1)
    simp only at hlk2
    have HY : Hid (∀ y ∈ U, y.key ≠ (nd, id)) := hno
    clear hlk hno
    go_enter Tryz.func12, Tryz.ntmps12
    go_upto_region 1 with fail
    rw [← hW1]
    try rw [hq]
    clear hW1 hq
    go_region
    go_wp2
    go_ret
    exact ⟨.inl ⟨HY.out, rfl, HD.out.1⟩, Kb.ofBelow HD.out.2⟩
  · have hlk2 := hlk W1.drew (b_drew W1)
    simp only at hlk2
    have HY : Hid (∃ y ∈ U, y.key = (nd, id)) := ⟨y, hy, hk⟩
    generalize y.ps.length = yn at hlk2
    have b2d : Below W1.heap.size W1 W1.drew.drew := (b_drew W1).trans (b_drew W1.drew)
    obtain ⟨w5, hdel, p2, p3⟩ := (H2.out.1.below b2d).del_sb (nd, id) 0 44
    simp only at hdel
    have H5 : Hid (BdAt w5 p ge gs gg S E (U.filter fun u => u.key ≠ (nd, id)) G ∧ Kb w w5 ge gs gg) := ⟨p2, (Kb.ofBelow (H2.out.2.trans (b2d.mono H2.out.2.size))).trans p3⟩
    clear hlk hy hk p2 p3 b2d
    go_enter Tryz.func12, Tryz.ntmps12
    go_upto_region 1 with fail
    rw [← hW1]
    try rw [hq]
    clear hW1 hq
    go_region
    go_wp2
    go_region
    go_wp2
    go_ret
    exact ⟨.inr ⟨HY.out, rfl, H5.out.1⟩, H5.out.2⟩

set_option maxRecDepth 100000 in
set_option maxHeartbeats 2000000 in
theorem bsame_any (v u : Value) (xs ys : List Vl) (s t : ByteArray) (w : World) (h : VlIn w v xs) (h2 : VlIn w u ys) (hl : xs.length ≤ 1000) (hl2 : ys.length ≤ 1000) :
    Calls Tryz.prog 33 #[.agg #[v, .string s], .agg #[u, .string t]] w fun e w' => Says e (xs = ys ∧ s = t) ∧ Below w.heap.size w w' := by
  obtain ⟨a, c, rfl, _⟩ := h.shape
  obtain ⟨b, d, rfl, _⟩ := h2.shape
  obtain ⟨W1, hW1⟩ : ∃ W1, W1 = (w.alloc (.cells #[.slice a xs.length c, .string s] 27)).alloc (.cells #[.slice b ys.length d, .string t] 27) := ⟨_, rfl⟩
  have b1 : Below w.heap.size w W1 := by rw [hW1]; exact (b_one _ _).trans ((b_one _ _).mono (by simp))
  have x0 : W1.cell? ⟨w.heap.size, 0, none⟩ = some (.slice a xs.length c) := by rw [hW1]; simp
  have x1 : W1.cell? ⟨w.heap.size, 1, none⟩ = some (.string s) := by rw [hW1]; simp
  have y0 : W1.cell? ⟨w.heap.size + 1, 0, none⟩ = some (.slice b ys.length d) := by rw [hW1]; simp
  have y1 : W1.cell? ⟨w.heap.size + 1, 1, none⟩ = some (.string t) := by rw [hW1]; simp
  have HC := eqvl_any _ _ xs ys W1 (h.below b1) (h2.below b1) hl hl2
  have B1 : Hid (Below w.heap.size w W1) := b1
  clear h h2 b1
  by_cases e1 : xs = ys
  · have HC2 : Hid (Calls Tryz.prog 54 #[.slice a xs.length c, .slice b ys.length d] W1 fun e w' => e = .returned (.bool true) ∧ Below W1.heap.size W1 w') := HC.mono (fun e w' z => ⟨z.1.t e1, z.2⟩)
    have HE : Hid (xs = ys) := e1
    clear HC e1
    generalize xs.length = n at *
    generalize ys.length = m at *
    go_enter Tryz.func33, Tryz.ntmps33
    go_upto_region 1 with fail
    rw [← hW1]
    clear hW1
    have xl := cell_block x0
    have yl := cell_block y0
    go_wp2_with fail
    refine Calls.mono HC2.out ?_
    rintro e w2 ⟨rfl, b2⟩
    have z1 := cell_grown x1 b2
    have u1 := cell_grown y1 b2
    have zl := cell_block z1
    have ul := cell_block u1
    have B2 : Hid (Below w.heap.size w w2) := B1.out.trans (b2.mono B1.out.size)
    clear x0 x1 y0 y1 xl yl b2
    go_wp2
    go_ret
    exact ⟨⟨_, rfl, by simp [toList_inj, HE.out]⟩, B2.out⟩
  · have HC2 : Hid (Calls Tryz.prog 54 #[.slice a xs.length c, .slice b ys.length d] W1 fun e w' => e = .returned (.bool false) ∧ Below W1.heap.size W1 w') := HC.mono (fun e w' z => ⟨z.1.f e1, z.2⟩)
    have HE : Hid (¬ xs = ys) := e1
    clear HC e1
    generalize xs.length = n at *
    generalize ys.length = m at *
    go_enter Tryz.func33, Tryz.ntmps33
    go_upto_region 1 with fail
    rw [← hW1]
    clear hW1
    have xl := cell_block x0
    have yl := cell_block y0
    go_wp2_with fail
    refine Calls.mono HC2.out ?_
    rintro e w2 ⟨rfl, b2⟩
    have B2 : Hid (Below w.heap.size w w2) := B1.out.trans (b2.mono B1.out.size)
    clear x0 x1 y0 y1 xl yl b2
    go_wp2
    go_ret
    exact ⟨Says.no (fun q => HE.out q.1), B2.out⟩

set_option maxRecDepth 100000 in
set_option maxHeartbeats 2000000 in
theorem bhas_any (p ge gs gg : Nat) (S : List At) (E : List Bev) (U : List Bsb) (G : List Bgf) (n i pu sq : Int) (w : World) (h : BdAt w p ge gs gg S E U G) :
    Calls Tryz.prog 28 #[.pointer (some ⟨p, 0, none⟩), .agg #[.int .i64 n, .int .i64 i], .agg #[.int .i64 pu, .int .i64 sq]] w fun e w' => e = .returned (.bool (decide (((n, i), (pu, sq)) ∈ G))) ∧ Below w.heap.size w w' := by
  obtain ⟨W1, hW1⟩ : ∃ W1, W1 = (w.alloc (.cells #[.int .i64 n, .int .i64 i] 44)).alloc (.cells #[.int .i64 pu, .int .i64 sq] 94) := ⟨_, rfl⟩
  have b1 : Below w.heap.size w W1 := by rw [hW1]; exact (b_one _ _).trans ((b_one _ _).mono (by simp))
  have x0 : W1.cell? ⟨w.heap.size, 0, none⟩ = some (.int .i64 n) := by rw [hW1]; simp
  have x1 : W1.cell? ⟨w.heap.size, 1, none⟩ = some (.int .i64 i) := by rw [hW1]; simp
  have y0 : W1.cell? ⟨w.heap.size + 1, 0, none⟩ = some (.int .i64 pu) := by rw [hW1]; simp
  have y1 : W1.cell? ⟨w.heap.size + 1, 1, none⟩ = some (.int .i64 sq) := by rw [hW1]; simp
  obtain ⟨sa, sc, _, c0, c1, c2, c3, cl⟩ := (h.below b1).cells
  have hk1 := (h.below b1).ask_gf ((n, i), (pu, sq)) W1.drew (b_drew W1)
  have hk2 := (h.below b1).ask_gf ((n, i), (pu, sq)) (W1.alloc (.cells #[] 105)).drew ((b_one W1 _).trans (show Below W1.heap.size _ _ from ⟨rfl, rfl, rfl, Nat.le_refl _, fun _ _ => rfl⟩))
  simp only at hk1 hk2
  obtain ⟨bo, hbo⟩ : ∃ bo, bo = decide (((n, i), (pu, sq)) ∈ G) := ⟨_, rfl⟩
  rw [← hbo] at hk1 hk2 ⊢
  have B1 : Hid (Below w.heap.size w W1) := b1
  clear h b1 hbo
  have xl := cell_block x0
  have yl := cell_block y0
  go_enter Tryz.func28, Tryz.ntmps28
  go_upto_region 1 with fail
  rw [← hW1]
  clear hW1
  go_cut [8] (fun v wx => v = .bool bo ∧ Hid (Below w.heap.size w wx))
  case first =>
    go_region
    all_goals
      go_wp2
      go_meet
      exact ⟨rfl, B1.out.trans ((b_drewa W1 _).mono B1.out.size)⟩
  case rest =>
    rename World => W2
    obtain ⟨rfl, HB2⟩ := hcut
    go_wp2
    go_ret
    exact ⟨rfl, HB2.out⟩
end Go.Proofs.YtkncpojijfeahaaGreatDoor
