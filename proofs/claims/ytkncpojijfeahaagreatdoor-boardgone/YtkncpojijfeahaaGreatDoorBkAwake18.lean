/- Layer 18's answers that the document fixes: awake. -/
import Derived.Test.YtkncpojijfeahaaGreatDoorBkAwake
import Derived.Test.YtkncpojijfeahaaGreatDoorBkDue
import Derived.Test.YtkncpojijfeahaaGreatDoorJoinBkBase
import Derived.Deep.CutBlock
import Derived.Deep.DeepCutAuto
import Derived.Deep.LoopGhost
namespace Go.Proofs.YtkncpojijfeahaaGreatDoor
open Go.ChangeShapes Go.WideShapes Go.ChangeAt Go.RowKit Go.Extern.Stop Go.Stop Go.Extern
set_option linter.unusedVariables false

def aA : List At := [⟨sPrice, 1, 0, 99⟩]
theorem aA_ok : SchemaOk aA := by
  refine ⟨by decide, by decide, fun i hi => ?_⟩
  obtain rfl : i = 0 := by have : i < 1 := hi; omega
  exact ⟨⟨price_ok, .inl ⟨rfl, by decide, by decide, by decide⟩⟩, fun j hj => by omega⟩
theorem aA_find : FindAt aA sPrice 0 := ⟨by decide, rfl, fun j hj => by omega⟩
def aV : List Vl := [⟨5, ByteArray.empty⟩]
theorem aV_ok : EventOk aA aV 0 := by
  refine ⟨rfl, by decide, fun i hi => ?_⟩
  obtain rfl : i = 0 := by have : i < 1 := hi; omega
  exact .inl ⟨rfl, by decide, by decide, rfl⟩
def aP : List Pl := [⟨lPrice, 1, 3, 9, []⟩]
theorem aP_is : aP.map pdOf = [⟨sPrice, 1, 3, 9, ByteArray.empty⟩] := rfl
theorem aP_ok : FilterOk aA (aP.map pdOf) := by
  rw [aP_is]
  refine ⟨by decide, by decide, fun i hi => ?_⟩
  obtain rfl : i = 0 := by have : i < 1 := hi; omega
  exact ⟨fun j hj => by omega, 0, aA_find, .inl ⟨rfl, rfl, by decide, by decide, by decide, rfl⟩⟩
theorem aM_ok : MatchOk aA (aP.map pdOf) aV 0 := by
  refine ⟨aP_ok, aV_ok, fun i hi => ?_⟩
  rw [aP_is] at hi ⊢
  obtain rfl : i = 0 := by have : i < 1 := hi; omega
  exact ⟨0, aA_find, takes_1.mpr ⟨by decide, by decide⟩⟩
def aE : Bev := ⟨(2, 1), aV, ByteArray.empty⟩
def aU : Bsb := ⟨(0, 1), aP.map pdOf⟩
theorem aDue {L : List (Int × Int)} {y : Bev} (hy : y ∈ [aE]) (h : DueL [aU] (DueK aA [] (2, 1) y) L) : L = [(0, 1)] := by
  obtain rfl : y = aE := by simpa using hy
  refine h.uniq ⟨by simp, fun k => ⟨fun hk => ⟨aU, by simp, ?_, aM_ok, by simp⟩, ?_⟩⟩
  · have : k = (0, 1) := by simpa using hk
    rw [this]; rfl
  · rintro ⟨u, hu, rfl, _⟩
    have : u = aU := by simpa using hu
    rw [this]; simp [aU]
theorem aGive0 (c : Int) (h : GiveC aA [aE] [aU] [] ((0, 1), (2, 1)) aV ByteArray.empty c) : c = 0 := by
  rcases h with ⟨_, hn⟩ | ⟨y, hy, _, ⟨_, hn⟩ | ⟨_, ⟨_, hn⟩ | ⟨x, hx, _, ⟨_, hn⟩ | ⟨_, ⟨_, hn⟩ | ⟨h0, _⟩⟩⟩⟩⟩
  · exact absurd rfl (hn aE (by simp))
  · obtain rfl : y = aE := by simpa using hy
    exact absurd ⟨rfl, rfl⟩ hn
  · exact absurd rfl (hn aU (by simp))
  · obtain rfl : y = aE := by simpa using hy
    obtain rfl : x = aU := by simpa using hx
    exact absurd aM_ok hn
  · simp at hn
  · exact h0
theorem aGive5 (c : Int) (h : GiveC aA [aE] [aU] [((0, 1), (2, 1))] ((0, 1), (2, 1)) aV ByteArray.empty c) : c = 5 := by
  rcases h with ⟨_, hn⟩ | ⟨y, hy, _, ⟨_, hn⟩ | ⟨_, ⟨_, hn⟩ | ⟨x, hx, _, ⟨_, hn⟩ | ⟨_, ⟨h5, _⟩ | ⟨_, hn⟩⟩⟩⟩⟩
  · exact absurd rfl (hn aE (by simp))
  · obtain rfl : y = aE := by simpa using hy
    exact absurd ⟨rfl, rfl⟩ hn
  · exact absurd rfl (hn aU (by simp))
  · obtain rfl : y = aE := by simpa using hy
    obtain rfl : x = aU := by simpa using hx
    exact absurd aM_ok hn
  · exact h5
  · simp at hn

set_option maxRecDepth 100000 in
set_option maxHeartbeats 4000000 in
theorem awake18_any (w : World) (hE : Env w) : Calls Tryz.prog 9 #[] w fun e w' => e = .returned (.bool true) ∧ Below w.heap.size w w' := by
  have HE : Hid (Env w) := hE
  clear hE
  go_enter Tryz.func9, Tryz.ntmps9
  go_wp2_with fail
  refine (bnew_any _ aA _ (AtIn.ofBlock aA rfl (heap_alloc_new w _) (by decide)) (by decide) (by decide +kernel)).mono ?_
  rintro e w1 ⟨hN, b1⟩
  rcases hN with ⟨_, p, ge, gs, gg, rfl, hb, l0, l1, l2, l3⟩ | ⟨hn, _⟩
  rotate_left
  · exact absurd aA_ok hn
  have H1 : Hid (BdAt w1 p ge gs gg aA [] [] [] ∧ Below w.heap.size w w1 ∧ w.heap.size ≤ ge ∧ w.heap.size ≤ gs ∧ w.heap.size ≤ gg) := ⟨hb, (b_one _ _).trans (b1.mono (by simp)), by simp at l1; omega, by simp at l2; omega, by simp at l3; omega⟩
  clear hb b1 l0 l1 l2 l3
  obtain ⟨W2, hW2⟩ : ∃ W2, W2 = (w1.alloc (.cells #[.int .i64 5, .string ⟨#[]⟩] 77)).alloc (.cells #[.slice (some ⟨w1.heap.size, 0, none⟩) 1 1, .string ⟨#[]⟩] 27) := ⟨_, rfl⟩
  have b2 : Below w1.heap.size w1 W2 := by rw [hW2]; exact (b_one _ _).trans ((b_one _ _).mono (by simp))
  have hv : VlIn W2 (.slice (some ⟨w1.heap.size, 0, none⟩) 1 1) aV := by rw [hW2]; exact (VlIn.ofBlock aV rfl (heap_alloc_new w1 _) (by decide)).below (b_one _ _)
  have x0 : W2.cell? ⟨w1.heap.size + 1, 0, none⟩ = some (.slice (some ⟨w1.heap.size, 0, none⟩) 1 1) := by rw [hW2]; exact cell_at (j := 0) (by simp) (by simp)
  have x1 : W2.cell? ⟨w1.heap.size + 1, 1, none⟩ = some (.string ⟨#[]⟩) := by rw [hW2]; exact cell_at (j := 1) (by simp) (by simp)
  have H2 : Hid (BdAt W2 p ge gs gg aA [] [] [] ∧ Below w.heap.size w W2 ∧ (w.heap.size ≤ ge ∧ w.heap.size ≤ gs ∧ w.heap.size ≤ gg) ∧ VlIn W2 (.slice (some ⟨w1.heap.size, 0, none⟩) 1 1) aV ∧ W2.cell? ⟨w1.heap.size + 1, 0, none⟩ = some (.slice (some ⟨w1.heap.size, 0, none⟩) 1 1) ∧ W2.cell? ⟨w1.heap.size + 1, 1, none⟩ = some (.string ⟨#[]⟩)) := ⟨H1.out.1.below b2, H1.out.2.1.trans (b2.mono H1.out.2.1.size), H1.out.2.2, hv, x0, x1⟩
  clear b2 hv x0 x1
  go_wp2_with fail
  rw [← hW2]
  clear hW2
  refine (bpub_any p ge gs gg aA [] [] [] 2 1 _ aV ByteArray.empty _ H2.out.1 H2.out.2.2.2.1 (by decide) (by decide) (by decide)).mono ?_
  rintro e w3 ⟨hP, k3⟩
  rcases hP with ⟨hn, _⟩ | ⟨_, ⟨y, hy, _⟩, _⟩ | ⟨_, _, rfl, hb⟩
  · exact absurd aV_ok hn
  · simp at hy
  have HB : Hid (∃ ga q, ga = w1.heap.size ∧ q = w1.heap.size + 1) := ⟨_, _, rfl, rfl⟩
  generalize hq1 : w1.heap.size + 1 = q at H2 ⊢
  generalize hq0 : w1.heap.size = ga at H2 ⊢
  have K3 := H2.out.1.kc k3
  have H3 : Hid (BdAt w3 p ge gs gg aA [aE] [] [] ∧ Below w.heap.size w w3 ∧ (w.heap.size ≤ ge ∧ w.heap.size ≤ gs ∧ w.heap.size ≤ gg) ∧ VlIn w3 (.slice (some ⟨ga, 0, none⟩) 1 1) aV ∧ w3.cell? ⟨q, 0, none⟩ = some (.slice (some ⟨ga, 0, none⟩) 1 1) ∧ w3.cell? ⟨q, 1, none⟩ = some (.string ⟨#[]⟩)) := ⟨hb, H2.out.2.1.trans (k3.below H2.out.2.2.1.1 H2.out.2.2.1.2.1 H2.out.2.2.1.2.2 H2.out.2.1.size), H2.out.2.2.1, H2.out.2.2.2.1.kc K3, K3.at H2.out.2.2.2.2.1, K3.at H2.out.2.2.2.2.2⟩
  clear k3 hb K3 H2 H1 HB
  go_wp2_with fail
  refine (bsub_any p ge gs gg aA [aE] [] [] 0 1 s39 aP 0 0 _ H3.out.1 (HE.out.below H3.out.2.1 HE.out.lt) (by decide) two39.2 two39.1).mono ?_
  rintro e w4 ⟨hP, k4⟩
  rcases hP with ⟨hn, _⟩ | ⟨_, hn, _⟩ | ⟨_, _, ⟨y, hy, _⟩, _⟩ | ⟨_, _, _, rfl, hb⟩
  · exact absurd rfl hn
  · exact absurd aP_ok hn
  · simp at hy
  have K4 := H3.out.1.kc k4
  have H4 : Hid (BdAt w4 p ge gs gg aA [aE] [aU] [] ∧ Below w.heap.size w w4 ∧ (w.heap.size ≤ ge ∧ w.heap.size ≤ gs ∧ w.heap.size ≤ gg) ∧ VlIn w4 (.slice (some ⟨ga, 0, none⟩) 1 1) aV ∧ w4.cell? ⟨q, 0, none⟩ = some (.slice (some ⟨ga, 0, none⟩) 1 1) ∧ w4.cell? ⟨q, 1, none⟩ = some (.string ⟨#[]⟩)) := ⟨hb, H3.out.2.1.trans (k4.below H3.out.2.2.1.1 H3.out.2.2.1.2.1 H3.out.2.2.1.2.2 H3.out.2.1.size), H3.out.2.2.1, H3.out.2.2.2.1.kc K4, K4.at H3.out.2.2.2.2.1, K4.at H3.out.2.2.2.2.2⟩
  clear k4 hb K4 H3
  go_wp2_with fail
  refine (bdue_any p ge gs gg aA [aE] [aU] [] 2 1 _ H4.out.1 (by decide)).mono ?_
  rintro e w5 ⟨hD, b5⟩
  rcases hD with ⟨hn, _⟩ | ⟨y, hy, _, v, L, rfl, hL, hW⟩
  · exact absurd rfl (hn aE (by simp))
  obtain rfl := aDue hy hL
  obtain ⟨ta, tc, rfl, _, hT⟩ := hW.shape
  obtain ⟨tg, rfl, htl, hT⟩ := hT (by decide)
  have t1 : w5.cell? ⟨tg, 1, none⟩ = some (.int .i64 1) := (hT 0 (by decide)).2
  obtain ⟨W6, hW6⟩ : ∃ W6, W6 = w5.alloc (.cells #[.int .i64 1, .int .i64 2, .int .i64 1, .slice (some ⟨ga, 0, none⟩) 1 1, .string ⟨#[]⟩] 54) := ⟨_, rfl⟩
  have b6 : Below w5.heap.size w5 W6 := by rw [hW6]; exact b_one _ _
  have b56 := b5.trans (b6.mono b5.size)
  have y0 : W6.cell? ⟨w5.heap.size, 0, none⟩ = some (.int .i64 1) := by rw [hW6]; exact cell_at (j := 0) rfl (by simp)
  have y1 : W6.cell? ⟨w5.heap.size, 1, none⟩ = some (.int .i64 2) := by rw [hW6]; exact cell_at (j := 1) rfl (by simp)
  have y2 : W6.cell? ⟨w5.heap.size, 2, none⟩ = some (.int .i64 1) := by rw [hW6]; exact cell_at (j := 2) rfl (by simp)
  have y3 : W6.cell? ⟨w5.heap.size, 3, none⟩ = some (.slice (some ⟨ga, 0, none⟩) 1 1) := by rw [hW6]; exact cell_at (j := 3) rfl (by simp)
  have y4 : W6.cell? ⟨w5.heap.size, 4, none⟩ = some (.string ⟨#[]⟩) := by rw [hW6]; exact cell_at (j := 4) rfl (by simp)
  have z1 := cell_grown t1 b6
  have zl := cell_block z1
  have yl := cell_block y0
  have wl := H4.out.2.1.size
  have H6 : Hid (BdAt W6 p ge gs gg aA [aE] [aU] [] ∧ Below w.heap.size w W6 ∧ (w.heap.size ≤ ge ∧ w.heap.size ≤ gs ∧ w.heap.size ≤ gg) ∧ VlIn W6 (.slice (some ⟨ga, 0, none⟩) 1 1) aV) := ⟨H4.out.1.below b56, H4.out.2.1.trans (b56.mono wl), H4.out.2.2.1, H4.out.2.2.2.1.below b56⟩
  obtain ⟨d0, d1⟩ : w5.cell? ⟨q, 0, none⟩ = some (.slice (some ⟨ga, 0, none⟩) 1 1) ∧ w5.cell? ⟨q, 1, none⟩ = some (.string ⟨#[]⟩) := ⟨cell_grown H4.out.2.2.2.2.1 b5, cell_grown H4.out.2.2.2.2.2 b5⟩
  have dl := cell_block d0
  clear H4 hL hW hT b5 b6 b56 wl t1 htl hy
  go_upto_region 7 with fail
  rw [← hW6]
  clear hW6 d0 d1 dl
  generalize hr : w5.heap.size = r at y0 y1 y2 y3 y4 yl ⊢
  go_wp2_with fail
  refine (bgive_any p ge gs gg aA [aE] [aU] [] 0 1 2 1 _ aV ByteArray.empty _ H6.out.1 H6.out.2.2.2 (by decide)).mono ?_
  rintro e w7 ⟨hG, k7⟩
  rcases hG with ⟨_, rfl, hb⟩ | ⟨c, hc, hG, _⟩
  rotate_left
  · exact absurd (aGive0 c hG) hc
  have K7 := H6.out.1.kc k7
  have H7 : Hid (BdAt w7 p ge gs gg aA [aE] [aU] [((0, 1), (2, 1))] ∧ Below w.heap.size w w7 ∧ (w.heap.size ≤ ge ∧ w.heap.size ≤ gs ∧ w.heap.size ≤ gg) ∧ VlIn w7 (.slice (some ⟨ga, 0, none⟩) 1 1) aV) := ⟨hb, H6.out.2.1.trans (k7.below H6.out.2.2.1.1 H6.out.2.2.1.2.1 H6.out.2.2.1.2.2 H6.out.2.1.size), H6.out.2.2.1, H6.out.2.2.2.kc K7⟩
  have u0 := K7.at y0
  have u1 := K7.at y1
  have u2 := K7.at y2
  have u3 := K7.at y3
  have u4 := K7.at y4
  have ul := cell_block u0
  clear K7 hb k7 H6 y0 y1 y2 y3 y4 yl z1 zl
  go_wp2_with fail
  refine (bgive_any p ge gs gg aA [aE] [aU] [((0, 1), (2, 1))] 0 1 2 1 _ aV ByteArray.empty _ H7.out.1 H7.out.2.2.2 (by decide)).mono ?_
  rintro e w8 ⟨hG, k8⟩
  rcases hG with ⟨hG, _⟩ | ⟨c, hc, hG, rfl, hb⟩
  · have := aGive5 0 hG; omega
  obtain rfl := aGive5 c hG
  have H8 : Hid (Below w.heap.size w w8) := H7.out.2.1.trans (k8.below H7.out.2.2.1.1 H7.out.2.2.1.2.1 H7.out.2.2.1.2.2 H7.out.2.1.size)
  clear hG hb k8 H7 u0 u1 u2 u3 u4 ul
  go_wp2_with fail
  refine (is_cd 5 5 _).mono ?_
  rintro e w9 ⟨rfl, rfl⟩
  go_wp2
  go_ret
  exact ⟨rfl, H8.out⟩
end Go.Proofs.YtkncpojijfeahaaGreatDoor
