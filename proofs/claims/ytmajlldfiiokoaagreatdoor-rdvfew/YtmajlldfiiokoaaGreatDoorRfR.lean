/- wigwagref10.Round. -/
import Derived.Test.YtmajlldfiiokoaaGreatDoorRfS
import Derived.Deep.LoopGhost
namespace Go.Proofs.YtmajlldfiiokoaaGreatDoor
open Go.ChangeShapes Go.WideShapes Go.ChangeAt Go.RowKit Go.Deep
set_option linter.unusedVariables false

theorem RfV.shape {w : World} {R : Rg} {v : Value} (h : RfV w R v) : ∃ a0 a1 a2 a3, v = .agg #[a0, a1, a2, a3] ∧ ∃ ua uc la lc ia ic pa pc, a0 = .slice ua 32 uc ∧ a1 = .slice la 32 lc ∧ a2 = .slice ia 32 ic ∧ a3 = .slice pa 32 pc := by
  obtain ⟨ua, uc, la, lc, ia, ic, pa, pc, P, rfl, _⟩ := h.ex
  exact ⟨_, _, _, _, rfl, ua, uc, la, lc, ia, ic, pa, pc, rfl, rfl, rfl, rfl⟩
/-- No row of the document's ring lies where slices lie. -/
theorem InRow.off {α : Type} {k : Nat} {enc : α → List Value} {ok : α → Prop} {d : α} {w w' : World} {a : Option Addr} {n : Nat} {zs : List α} (h : InRow k enc ok d w a n zs) (hk : 0 < k) (hns : ∀ x : α, ∃ u, (enc x)[0]? = some u ∧ ∀ a n c, u ≠ .slice a n c) (hs : w.heap.size ≤ w'.heap.size) (hoff : ∀ b x v, w.cell? ⟨b, x, none⟩ = some v → (∀ a n c, v ≠ .slice a n c) → w'.heap[b]? = w.heap[b]?) : InRow k enc ok d w' a n zs := by
  refine ⟨h.1, h.2.1, ?_⟩
  rcases h.2.2 with h0 | ⟨b, o, ha, hlt, hc⟩
  · exact .inl h0
  · by_cases h0 : n = 0
    · exact .inl h0
    obtain ⟨u, hu, hus⟩ := hns (zs.getD 0 d)
    have e := (hc 0 (by omega)).2 0 hk
    rw [hu] at e
    have hb := hoff b _ u e hus
    exact .inr ⟨b, o, ha, Nat.lt_of_lt_of_le hlt hs, fun i hi => ⟨(hc i hi).1, fun j hj => (World.cell?_of_block (a := ⟨b, o + i * k + j, none⟩) hb).trans ((hc i hi).2 j hj)⟩⟩
theorem RfV.off {w w' : World} {R : Rg} {v : Value} (h : RfV w R v) (hs : w.heap.size ≤ w'.heap.size) (hoff : ∀ b x v, w.cell? ⟨b, x, none⟩ = some v → (∀ a n c, v ≠ .slice a n c) → w'.heap[b]? = w.heap[b]?) : RfV w' R v := by
  obtain ⟨ua, uc, la, lc, ia, ic, pa, pc, P, e, h1, h2, h3, h4, h5⟩ := h.ex
  have nB : ∀ x : Bool, ∃ u, (encB x)[0]? = some u ∧ ∀ a n c, u ≠ .slice a n c := fun x => ⟨_, rfl, fun _ _ _ q => by cases q⟩
  have nU : ∀ x : Int, ∃ u, (encU x)[0]? = some u ∧ ∀ a n c, u ≠ .slice a n c := fun x => ⟨_, rfl, fun _ _ _ q => by cases q⟩
  have nI : ∀ x : Int, ∃ u, (encI x)[0]? = some u ∧ ∀ a n c, u ≠ .slice a n c := fun x => ⟨_, rfl, fun _ _ _ q => by cases q⟩
  have nP : ∀ x : Pr3, ∃ u, (x.cells)[0]? = some u ∧ ∀ a n c, u ≠ .slice a n c := fun x => ⟨_, rfl, fun _ _ _ q => by cases q⟩
  exact ⟨ua, uc, la, lc, ia, ic, pa, pc, P, e, h1.off (by omega) nB hs hoff, h2.off (by omega) nB hs hoff, h3.off (by omega) nU hs hoff, h4.off (by omega) nP hs hoff, fun k hk x hx =>
    have q := h5 k hk x hx
    ⟨q.1, q.2.1, q.2.2.hid, q.2.2.hpred, q.2.2.row.off (by omega) nI hs hoff, q.2.2.hcap, q.2.2.hmost, q.2.2.hnil⟩⟩
theorem off_set4 {w : World} {p : Nat} {c0 c1 c2 c3 : Value} {t : TypeId} (h : w.heap[p]? = some (.cells #[c0, c1, c2, c3] t (0, 0))) (h0 : ∃ a n c, c0 = .slice a n c) (h1 : ∃ a n c, c1 = .slice a n c) (h2 : ∃ a n c, c2 = .slice a n c) (h3 : ∃ a n c, c3 = .slice a n c) (v0 v1 v2 v3 : Value) :
    ∀ b x v, w.cell? ⟨b, x, none⟩ = some v → (∀ a n c, v ≠ .slice a n c) → (set4 w p v0 v1 v2 v3).heap[b]? = w.heap[b]? := by
  intro b x v hc hv
  by_cases e : b = p
  · subst e
    exfalso
    obtain ⟨a0, n0, d0, rfl⟩ := h0
    obtain ⟨a1, n1, d1, rfl⟩ := h1
    obtain ⟨a2, n2, d2, rfl⟩ := h2
    obtain ⟨a3, n3, d3, rfl⟩ := h3
    have hx : x < 4 := by
      rcases Nat.lt_or_ge x 4 with q | q
      · exact q
      · simp [World.cell?, h] at hc
        rw [List.getElem?_eq_none (by simpa using q)] at hc
        cases hc
    have : x = 0 ∨ x = 1 ∨ x = 2 ∨ x = 3 := by omega
    rcases this with rfl | rfl | rfl | rfl <;> (simp [World.cell?, h] at hc; exact hv _ _ _ hc.symm)
  · exact set4_other e _ _ _ _
def foldStab (R : Rg) (l : List Int) (j : Nat) : Rg := (l.take j).foldl (fun R n => R.stab n) R
theorem foldStab_succ (R : Rg) (l : List Int) (j : Nat) (hj : j < l.length) : foldStab R l (j + 1) = (foldStab R l j).stab (l.getD j 0) := by
  unfold foldStab
  rw [List.take_succ_eq_append_getElem hj, List.foldl_append]
  simp [List.getD, hj]
theorem foldStab_all (R : Rg) : foldStab R R.live R.live.length = R.round := by unfold foldStab Rg.round; rw [List.take_length]
theorem foldStab_inv {R : Rg} (h : Inv R) (l : List Int) (j : Nat) : Inv (foldStab R l j) := h.foldS _

set_option maxRecDepth 100000 in
set_option maxHeartbeats 4000000 in
theorem rround_r (R : Rg) (v : Value) (w : World) (h : RfV w R v) (hi : Inv R) :
    Calls Tryz.prog 62 #[v] w fun e w' => ∃ v', e = .returned v' ∧ RfV w' R.round v' ∧ Below w.heap.size w w' := by
  have HV : Hid (RfV w R v ∧ Inv R) := ⟨h, hi⟩
  obtain ⟨ua, uc, la, lc, ia, ic, pa, pc, P, rfl, _⟩ := h.ex
  clear h hi
  obtain ⟨W1, hW1⟩ : ∃ W1, W1 = (w.alloc (.cells #[.slice ua 32 uc, .slice la 32 lc, .slice ia 32 ic, .slice pa 32 pc] 32)).alloc (.cells #[.slice none 0 0, .slice none 0 0, .slice none 0 0, .slice none 0 0] 32) := ⟨_, rfl⟩
  have H1 : Hid (RfI w W1 (.slice ua 32 uc) (.bool true) (.slice la 32 lc) (.bool true) (.slice ia 32 ic) (.bool true) (.slice pa 32 pc) (.bool true)) := by rw [hW1]; exact RfI.start w _ _ _ _ _
  obtain ⟨r0, r1, r2, r3, rl⟩ := c4_block H1.out.box
  go_enter Tryz.func62, Tryz.ntmps62
  go_upto_region 1 with fail
  rw [← hW1]
  clear hW1
  go_wp2_with fail
  refine (rlive_r R _ _ (HV.out.1.below H1.out.bel)).mono ?_
  rintro e w2 ⟨a, c, rfl, hin, hnew, hb2⟩
  have hl32 : R.live.length ≤ 32 := liveTo_len R 32
  obtain ⟨nL, hnL⟩ : ∃ nL, nL = R.live.length := ⟨_, rfl⟩
  rw [← hnL] at hin hl32 ⊢
  have HNL : Hid (nL = R.live.length) := hnL
  have HLI : Hid (InIn w2 a nL R.live ∧ (∀ x, a = some x → W1.heap.size ≤ x.block) ∧ W1.heap.size ≤ w2.heap.size ∧ w.heap.size + 1 < W1.heap.size) := ⟨hin, hnew, hb2.size, lt_of_block H1.out.res⟩
  have H2 : Hid (RfI w w2 (.slice ua 32 uc) (.bool true) (.slice la 32 lc) (.bool true) (.slice ia 32 ic) (.bool true) (.slice pa 32 pc) (.bool true)) := H1.out.below hb2
  clear r0 r1 r2 r3 rl H1 hin hnew hb2 hnL
  go_wp2
  go_loopg [10] nL (fun kx s wr => ∃ j : Nat, s = .int .i64 j ∧ j ≤ nL ∧ kx = nL - j ∧ ∃ x0 x1 x2 x3, Hid (RfI w wr x0 (.bool true) x1 (.bool true) x2 (.bool true) x3 (.bool true) ∧ RfV wr (foldStab R R.live j) (.agg #[x0, x1, x2, x3]) ∧ InIn wr a nL R.live))
  case atStart => exact ⟨0, rfl, Nat.zero_le _, rfl, _, _, _, _, (⟨H2.out, HV.out.1.below H2.out.bel, HLI.out.1⟩ : RfI _ _ _ _ _ _ _ _ _ _ ∧ RfV _ _ _ ∧ _)⟩
  case round =>
    obtain ⟨j, rfl, hj, rfl, x0, x1, x2, x3, H⟩ := hrel
    clear H2
    obtain ⟨r0, r1, r2, r3, rl⟩ := c4_block H.out.1.box
    have rf := fz_block H.out.1.box
    obtain ⟨xa0, xa1, xa2, xa3, hsh, ya, yb, yc, yd, ye, yf, yg, yh, e0, e1, e2, e3⟩ := H.out.2.1.shape
    simp only [Value.agg.injEq, Array.mk.injEq, List.cons.injEq, and_true] at hsh
    obtain ⟨hs0, hs1, hs2, hs3⟩ := hsh
    rw [← hs0] at e0
    rw [← hs1] at e1
    rw [← hs2] at e2
    rw [← hs3] at e3
    subst e0 e1 e2 e3
    clear hs0 hs1 hs2 hs3
    by_cases hlt : j < nL
    · have hj0 : (0 : Int) ≤ (j : Int) := Int.natCast_nonneg _
      have hj1 : (j : Int) < (nL : Int) := by omega
      obtain ⟨b, o, ha, hb, hx, hc⟩ := H.out.2.2.one (v := Value.int .i64) (fun _ => rfl) (i := j) hlt
      subst ha
      have HS : Hid (foldStab R R.live (j + 1) = (foldStab R R.live j).stab (R.live.getD j 0)) := foldStab_succ R R.live j (by have := HNL.out; omega)
      generalize R.live.getD j 0 = m at hx hc HS
      obtain ⟨Rj, hRj⟩ : ∃ Rj, Rj = foldStab R R.live j := ⟨_, rfl⟩
      have HRj : Hid (Rj = foldStab R R.live j ∧ Inv Rj) := ⟨hRj, by rw [hRj]; exact foldStab_inv HV.out.2 _ _⟩
      have HVj : Hid (RfV wr Rj (.agg #[.slice ya 32 yb, .slice yc 32 yd, .slice ye 32 yf, .slice yg 32 yh])) := by rw [hRj]; exact H.out.2.1
      clear hRj
      go_wp2_with fail
      refine (rstab_r Rj _ m wr HVj.out HRj.out.2).mono ?_
      rintro e w4 ⟨v4, rfl, hv4, hb4⟩
      obtain ⟨z0, z1, z2, z3, hsh, za, zb, zc, zd, ze, zf, zg, zh, q0, q1, q2, q3⟩ := hv4.shape
      subst q0 q1 q2 q3
      subst hsh
      generalize Rj.stabC m = cc
      have H4 := H.out.1.below hb4
      clear r0 r1 r2 r3 rl rf
      obtain ⟨r0, r1, r2, r3, rl⟩ := c4_block H4.box
      have rf := fz_block H4.box
      have rz : w.heap.size < w4.heap.size := rl
      have hbl : b < wr.heap.size := hb
      have HX : Hid (RfI w w4 (.slice ya 32 yb) (.bool true) (.slice yc 32 yd) (.bool true) (.slice ye 32 yf) (.bool true) (.slice yg 32 yh) (.bool true) ∧ RfV w4 (foldStab R R.live (j + 1)) (.agg #[.slice za 32 zb, .slice zc 32 zd, .slice ze 32 zf, .slice zg 32 zh]) ∧ InIn w4 (some ⟨b, o, none⟩) nL R.live) := ⟨H4, by rw [HS.out, ← HRj.out.1]; exact hv4, H.out.2.2.below (Nat.le_refl _) hb4⟩
      have H5 : Hid (RfI w ((set4 w4 w.heap.size (.slice za 32 zb) (.slice zc 32 zd) (.slice ze 32 zf) (.slice zg 32 zh)).alloc (.cells #[.slice za 32 zb, .slice zc 32 zd, .slice ze 32 zf, .slice zg 32 zh] 32)) (.slice za 32 zb) (.bool true) (.slice zc 32 zd) (.bool true) (.slice ze 32 zf) (.bool true) (.slice zg 32 zh) (.bool true) ∧ RfV ((set4 w4 w.heap.size (.slice za 32 zb) (.slice zc 32 zd) (.slice ze 32 zf) (.slice zg 32 zh)).alloc (.cells #[.slice za 32 zb, .slice zc 32 zd, .slice ze 32 zf, .slice zg 32 zh] 32)) (foldStab R R.live (j + 1)) (.agg #[.slice za 32 zb, .slice zc 32 zd, .slice ze 32 zf, .slice zg 32 zh]) ∧ InIn ((set4 w4 w.heap.size (.slice za 32 zb) (.slice zc 32 zd) (.slice ze 32 zf) (.slice zg 32 zh)).alloc (.cells #[.slice za 32 zb, .slice zc 32 zd, .slice ze 32 zf, .slice zg 32 zh] 32)) (some ⟨b, o, none⟩) nL R.live) := by
        obtain ⟨hI, hV, hL⟩ := HX.out
        have hoff := off_set4 hI.box ⟨_, _, _, rfl⟩ ⟨_, _, _, rfl⟩ ⟨_, _, _, rfl⟩ ⟨_, _, _, rfl⟩ (.slice za 32 zb) (.slice zc 32 zd) (.slice ze 32 zf) (.slice zg 32 zh)
        have hsz : w4.heap.size ≤ (set4 w4 w.heap.size (.slice za 32 zb) (.slice zc 32 zd) (.slice ze 32 zf) (.slice zg 32 zh)).heap.size := by rw [set4_size]; exact Nat.le_refl _
        have hI2 : RfI w (set4 w4 w.heap.size (.slice za 32 zb) (.slice zc 32 zd) (.slice ze 32 zf) (.slice zg 32 zh)) (.slice za 32 zb) (.bool true) (.slice zc 32 zd) (.bool true) (.slice ze 32 zf) (.bool true) (.slice zg 32 zh) (.bool true) := ⟨set4_box hI.box _ _ _ _, (set4_other (by omega) _ _ _ _).trans hI.res, set4_below hI.bel (Nat.le_refl _) _ _ _ _⟩
        exact ⟨hI2.below (below_one _ _), (hV.off hsz hoff).below (below_one _ _), (hL.off (by omega) (fun x => ⟨_, rfl, fun _ _ _ q => by cases q⟩) hsz hoff).below (Nat.le_refl _) (below_one _ _)⟩
      clear H4 hv4 hb4 H HVj hc hx HX
      go_wp2
      go_roundg (nL - (j + 1))
      case measure => omega
      case rel => exact ⟨j + 1, by go_num, by omega, rfl, _, _, _, _, H5⟩
    · have hj1 : ¬ (j : Int) < (nL : Int) := by omega
      obtain rfl : j = nL := by omega
      obtain ⟨s0, s1, s2, s3, sl⟩ := c4_block H.out.1.res
      have sf := fz_block H.out.1.res
      have HX : Hid (RfV wr R.round (.agg #[.slice ya 32 yb, .slice yc 32 yd, .slice ye 32 yf, .slice yg 32 yh]) ∧ Below w.heap.size w wr ∧ RfI w wr (.slice ya 32 yb) (.bool true) (.slice yc 32 yd) (.bool true) (.slice ye 32 yf) (.bool true) (.slice yg 32 yh) (.bool true)) := ⟨by rw [← foldStab_all, ← HNL.out]; exact H.out.2.1, H.out.1.bel, H.out.1⟩
      clear H HLI HNL
      go_wp2
      have hoff := off_set4 HX.out.2.2.res ⟨_, _, _, rfl⟩ ⟨_, _, _, rfl⟩ ⟨_, _, _, rfl⟩ ⟨_, _, _, rfl⟩ (.slice ya 32 yb) (.slice yc 32 yd) (.slice ye 32 yf) (.slice yg 32 yh)
      have hv := HX.out.1.off (by rw [set4_size]; exact Nat.le_refl _) hoff
      have hb := set4_below HX.out.2.1 (p := w.heap.size + 1) (by omega) (.slice ya 32 yb) (.slice yc 32 yd) (.slice ye 32 yf) (.slice yg 32 yh)
      unfold set4 at hv hb
      refine bodyPost_ret (v := .agg #[.slice ya 32 yb, .slice yc 32 yd, .slice ye 32 yf, .slice yg 32 yh]) (by simp [results, Tryz.results62, go_sem, s0, s1, s2, s3]) rfl ⟨_, rfl, hv, hb⟩
end Go.Proofs.YtmajlldfiiokoaaGreatDoor
