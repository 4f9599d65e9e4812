/- Stabilize. -/
import Derived.Test.YtgiiadjocfnhlabGreatDoorChJoin
import Derived.Deep.RegionWith
namespace Go.Proofs.YtgiiadjocfnhlabGreatDoor
open Go.ChangeShapes Go.WideShapes Go.ChangeAt Go.RowKit Go.Deep
set_option linter.unusedVariables false

def Rg.stabC (R : Rg) (n : Int) : Int := if R.lives n then 0 else 6
/-- Whom a member takes for the next one. -/
def Rg.next (R : Rg) (n : Int) : Int := if R.near (R.know (R.head n)).pred (R.know n).id (R.head n) then (R.know (R.head n)).pred else R.head n
def Rg.learn (R : Rg) (n s : Int) : Rg := R.setK n ⟨(R.know n).id, (R.know n).pred, s :: (R.know s).succ.take 2⟩
def Rg.tell (R : Rg) (s n : Int) : Rg := R.setK s ⟨(R.know s).id, R.rect (R.know s).id (R.know s).pred n, (R.know s).succ⟩
def Rg.stab (R : Rg) (n : Int) : Rg := if R.lives n then (R.learn n (R.next n)).tell (R.next n) n else R

theorem field_pred1 (v0 v2 : Value) (x : Int) (w : World) : (Instr.field 63 (.agg #[v0, .int .i64 x, v2]) 1).run Tryz.prog w = .ok (.int .i64 x) w := by kernel_rfl

theorem RingAt.pred_i64 {w : World} {r gp gk : Nat} {R : Rg} (h : RingAt w r gp gk R) (n : Int) : i64 (R.know n).pred := by
  obtain ⟨a, len, cap, hp, _⟩ := h.asked n
  exact hp.hpred
theorem RingAt.head_i64 {w : World} {r gp gk : Nat} {R : Rg} (h : RingAt w r gp gk R) (n : Int) : i64 (R.head n) := headF_i64 (h.succ_i64 n)
theorem RingAt.next_i64 {w : World} {r gp gk : Nat} {R : Rg} (h : RingAt w r gp gk R) (n : Int) : i64 (R.next n) := by
  unfold Rg.next; split
  · exact h.pred_i64 _
  · exact h.head_i64 n
theorem rect_or (R : Rg) (id pred n : Int) : R.rect id pred n = n ∨ R.rect id pred n = pred := by
  unfold Rg.rect; split
  · exact .inl rfl
  · exact .inr rfl

set_option maxRecDepth 100000 in
set_option maxHeartbeats 4000000 in
theorem stab_r (r gp gk : Nat) (R : Rg) (n : Int) (w : World) (h : RingAt w r gp gk R) (hn : i64 n) :
    Calls Tryz.prog 30 #[.pointer (some ⟨r, 0, none⟩), .int .i64 n] w fun e w' => e = .returned (errV (R.stabC n)) ∧ RingAt w' r gp gk (R.stab n) ∧ Kp w w' gp gk := by
  have H : Hid (RingAt w r gp gk R) := h
  have HN : Hid (i64 n) := hn
  have c0 := h.c0
  have c1 := h.c1
  have z := h.lt.1
  cases hl : R.kn n with
  | none =>
    have q := (h.missed hl).1
    have E : Hid (R.stabC n = 6 ∧ R.stab n = R) := (by simp [Rg.stabC, Rg.stab, Rg.lives, hl] : R.stabC n = 6 ∧ R.stab n = R)
    clear h hn hl
    go_enter Tryz.func30, Tryz.ntmps30
    go_wp2
    go_ret
    exact ⟨by rw [E.out.1]; rfl, by rw [E.out.2]; exact H.out.below (below_one _ _), Kp.ofBelow (below_one _ _)⟩
  | some p =>
    have E : Hid (R.stabC n = 0 ∧ R.stab n = (R.learn n (R.next n)).tell (R.next n) n) := (by simp [Rg.stabC, Rg.stab, Rg.lives, hl] : R.stabC n = 0 ∧ R.stab n = (R.learn n (R.next n)).tell (R.next n) n)
    have EP : Hid (R.know n = p) := (by simp [Rg.know, hl] : R.know n = p)
    obtain ⟨a, len, cap, hp, q, _⟩ := h.found hl
    have HP : Hid (PeIn w p.id p.pred a len cap p.succ) := hp
    obtain ⟨W1, hW1⟩ : ∃ W1, W1 = w.alloc (.cells #[.int .u64 p.id, .int .i64 p.pred, .slice a len cap] 63) := ⟨_, rfl⟩
    have b1 : Hid (Below w.heap.size w W1 ∧ W1.heap.size = w.heap.size + 1) := ⟨by rw [hW1]; exact below_one _ _, by rw [hW1]; simp⟩
    have k0 : W1.heap[w.heap.size]? = some (.cells #[.int .u64 p.id, .int .i64 p.pred, .slice a len cap] 63 (0, 0)) := by rw [hW1]; exact heap_alloc_new w _
    have HK : Hid (W1.heap[w.heap.size]? = some (.cells #[.int .u64 p.id, .int .i64 p.pred, .slice a len cap] 63 (0, 0))) := k0
    have H1 : Hid (RingAt W1 r gp gk R) := h.below b1.out.1
    have fp := fun v0 v2 x w => field_pred1 v0 v2 x w
    clear h hn hl hp k0
    go_enter Tryz.func30, Tryz.ntmps30
    go_wp2_with fail
    rw [← hW1]
    clear hW1 c0 c1 z q
    refine (head_r r gp gk R _ _ a len cap p.succ _ H1.out (HP.out.row.below (Nat.le_refl _) b1.out.1)).mono ?_
    rintro e w2 ⟨rfl, hb2⟩
    obtain ⟨s0, hs0⟩ : ∃ s0, headF R.lv p.succ = s0 := ⟨_, rfl⟩
    have HS0 : Hid (R.head n = s0) := by show headF R.lv (R.know n).succ = s0; rw [EP.out]; exact hs0
    rw [hs0]
    clear hs0
    have H2 : Hid (RingAt w2 r gp gk R) := H1.out.below hb2
    have K2 : Hid (w2.heap[w.heap.size]? = some (.cells #[.int .u64 p.id, .int .i64 p.pred, .slice a len cap] 63 (0, 0))) := (hb2.block _ (by have := b1.out.2; omega)).trans HK.out
    have B2 : Hid (Below w.heap.size w w2) := b1.out.1.trans (hb2.mono b1.out.1.size)
    have z2 : w.heap.size < w2.heap.size := by have := hb2.size; have := b1.out.2; omega
    clear hb2
    obtain ⟨a2, len2, cap2, hp2, hlook2⟩ := H2.out.asked s0
    have c1 := H2.out.c1
    have z := H2.out.lt.1
    have x0 : w2.cell? ⟨w.heap.size, 0, none⟩ = some (.int .u64 p.id) := by simp [World.cell?, K2.out]
    clear hp2
    go_wp2_with fail
    refine (nearer_r r gp gk R _ _ _ _ H2.out).mono ?_
    rintro e w3 ⟨rfl, hb3⟩
    have H3 : Hid (RingAt w3 r gp gk R) := H2.out.below hb3
    have K3 : Hid (w3.heap[w.heap.size]? = some (.cells #[.int .u64 p.id, .int .i64 p.pred, .slice a len cap] 63 (0, 0))) := (hb3.block _ z2).trans K2.out
    have B3 : Hid (Below w.heap.size w w3) := B2.out.trans (hb3.mono B2.out.size)
    have z3 : w.heap.size < w3.heap.size := by have := hb3.size; omega
    clear hb3 hlook2 c1 z x0
    obtain ⟨q, hq⟩ : ∃ q, (R.know s0).pred = q := ⟨_, rfl⟩
    have HQ : Hid (i64 q ∧ i64 s0) := ⟨by rw [← hq]; exact H3.out.pred_i64 s0, by rw [← HS0.out]; exact H3.out.head_i64 n⟩
    have HNX : Hid (R.next n = if R.near q p.id s0 then q else s0) := by
      show R.next n = _
      unfold Rg.next; rw [HS0.out, hq, EP.out]
    rw [hq]
    clear hq
    cases hnr : R.near q p.id s0
    · have HX : Hid (R.next n = s0) := by rw [HNX.out, hnr]; rfl
      have HI : Hid (i64 s0) := HQ.out.2
      clear hnr HNX
      obtain ⟨a4, len4, cap4, hp4, hlook4⟩ := H3.out.asked s0
      have HP4 : Hid (PeIn w3 (R.know s0).id (R.know s0).pred a4 len4 cap4 (R.know s0).succ) := hp4
      have c1 := H3.out.c1
      have z := H3.out.lt.1
      clear hp4
      go_wp2_with fail
      refine (follow_any s0 _ _ a4 len4 cap4 (R.know s0).succ _ HI.out HP4.out.row HP4.out.hcap HP4.out.hmost HP4.out.hnil).mono ?_
      rintro e w4 ⟨a5, c5, rfl, h5, hc5, hd5, hfr, hb4⟩
      obtain ⟨m5, hm5⟩ : ∃ m5, m5 = 1 + min len4 2 := ⟨_, rfl⟩
      rw [← hm5] at h5 hc5 ⊢
      have hm5p : 1 ≤ m5 := by omega
      have HF5 : Hid (∀ x, a5 = some x → w.heap.size < x.block) := fun x hx => by have := hfr x hx; omega
      clear hfr
      have H4 : Hid (RingAt w4 r gp gk R) := H3.out.below hb4
      have K4 : Hid (w4.heap[w.heap.size]? = some (.cells #[.int .u64 p.id, .int .i64 p.pred, .slice a len cap] 63 (0, 0))) := (hb4.block _ z3).trans K3.out
      have B4 : Hid (Below w.heap.size w w4) := B3.out.trans (hb4.mono B3.out.size)
      have z4 : w.heap.size < w4.heap.size := by have := hb4.size; omega
      have HP5 : Hid (PeIn w4 p.id p.pred a5 m5 c5 (s0 :: (R.know s0).succ.take 2)) := ⟨HP.out.hid, HP.out.hpred, h5, hc5, hd5, fun e => by have h := h5; subst e; rcases h.2.2 with h0 | ⟨b, o, ha, _⟩; exact h0; cases ha⟩
      clear hb4 hlook4 c1 z h5 hc5 hd5 hm5 hm5p
      obtain ⟨W5, hW5⟩ : ∃ W5, W5 = w4.setCell ⟨w.heap.size, 2, none⟩ (.slice a5 m5 c5) := ⟨_, rfl⟩
      have k4 := K4.out
      have x0 : w4.cell? ⟨w.heap.size, 0, none⟩ = some (.int .u64 p.id) := by simp [World.cell?, k4]
      have x1 : w4.cell? ⟨w.heap.size, 1, none⟩ = some (.int .i64 p.pred) := by simp [World.cell?, k4]
      have x2 : w4.cell? ⟨w.heap.size, 2, none⟩ = some (.slice a len cap) := by simp [World.cell?, k4]
      have xf : ∀ o, w4.frozen? ⟨w.heap.size, o, none⟩ = false := fun o => by simp [World.frozen?, k4]
      have B5 : Hid (Below w.heap.size w W5) := by rw [hW5]; exact B4.out.setCell (by simp) _
      have H5 : Hid (RingAt W5 r gp gk R) := H.out.below B5.out
      have y0 : W5.cell? ⟨w.heap.size, 0, none⟩ = some (.int .u64 p.id) := by rw [hW5]; simp [go_sem, x0]
      have y1 : W5.cell? ⟨w.heap.size, 1, none⟩ = some (.int .i64 p.pred) := by rw [hW5]; simp [go_sem, x1]
      have y2 : W5.cell? ⟨w.heap.size, 2, none⟩ = some (.slice a5 m5 c5) := by rw [hW5]; simp [go_sem, x2]
      have HP6 : Hid (PeIn W5 p.id p.pred a5 m5 c5 (s0 :: (R.know s0).succ.take 2)) := by
        refine ⟨HP5.out.hid, HP5.out.hpred, ?_, HP5.out.hcap, HP5.out.hmost, HP5.out.hnil⟩
        have h := HP5.out.row
        refine ⟨h.1, h.2.1, ?_⟩
        rcases h.2.2 with h0 | ⟨b, o, ha, hlt, hc⟩
        · exact .inl h0
        · refine .inr ⟨b, o, ha, by rw [hW5]; simpa [World.setCell] using hlt, fun i hi => ⟨(hc i hi).1, fun j hj => ?_⟩⟩
          have hne : w.heap.size ≠ b := by have := HF5.out _ ha; simp at this; omega
          rw [hW5, World.cell?_of_block (Below.heap_setCell _ _ _ _ (Ne.symm hne))]
          exact (hc i hi).2 j hj
      obtain ⟨R1, hR1⟩ : ∃ R1, R1 = R.setK n ⟨p.id, p.pred, s0 :: (R.know s0).succ.take 2⟩ := ⟨_, rfl⟩
      have HR1 : Hid (R.learn n s0 = R1) := by show R.setK n ⟨(R.know n).id, (R.know n).pred, s0 :: (R.know s0).succ.take 2⟩ = R1; rw [EP.out, hR1]
      obtain ⟨w6, e6, h6, k6⟩ := (H5.out.drew (W5.drawn + 1)).putK n ⟨p.id, p.pred, s0 :: (R.know s0).succ.take 2⟩ (HP6.out.below (Nat.le_refl _) (w' := { W5 with drawn := W5.drawn + 1 }) ⟨rfl, rfl, rfl, Nat.le_refl _, fun _ _ => rfl⟩) (fun x hx hc => by have := HF5.out x hx; have := H.out.old _ hc; omega)
      have e6' : (Instr.mapUpdate 113 (.map (some gk)) (.int .i64 n) (.agg #[.int .u64 p.id, .int .i64 p.pred, .slice a5 m5 c5])).run Tryz.prog W5.drew = .ok () w6 := e6
      rw [← hR1] at h6
      have K6 : Hid (Kp w w6 gp gk) := (Kp.ofBelow B5.out).trans ((Kp.drawn W5 (W5.drawn + 1) gp gk).trans k6)
      have H6 : Hid (RingAt w6 r gp gk R1) := h6
      have c1 := H5.out.c1
      have z := H5.out.lt.1
      have z5 : w.heap.size < W5.heap.size := by rw [hW5]; simpa [World.setCell] using z4
      clear e6 h6 k6 hR1
      go_upto_region 9 with fail
      rw [← hW5]
      clear hW5 x0 x1 x2 xf k4 z4
      go_region
      clear c1 z y0 y1 y2 e6'
      have c1 := H6.out.c1
      have z := H6.out.lt.1
      obtain ⟨a7, len7, cap7, hp7, hlook7⟩ := (H6.out.drew (w6.drawn + 1)).asked s0
      have hlook7' : (Instr.lookup 113 (.map (some gk)) (.int .i64 s0) false).run Tryz.prog w6.drew = .ok (.agg #[.int .u64 (R1.know s0).id, .int .i64 (R1.know s0).pred, .slice a7 len7 cap7]) w6.drew := hlook7
      have HCL : Hid (∀ x, a7 = some x → ¬ R1.cl x.block) := (H6.out.drew (w6.drawn + 1)).clear hlook7
      have HP7 : Hid (PeIn w6.drew (R1.know s0).id (R1.know s0).pred a7 len7 cap7 (R1.know s0).succ) := hp7
      have H6d : Hid (RingAt w6.drew r gp gk R1) := H6.out.drew (w6.drawn + 1)
      obtain ⟨x, hx⟩ : ∃ x, R1.rect (R1.know s0).id (R1.know s0).pred n = x := ⟨_, rfl⟩
      have HX7 : Hid _ := hx
      have HX8 : Hid (i64 x) := by
        rw [← hx]
        rcases rect_or R1 (R1.know s0).id (R1.know s0).pred n with e | e
        · rw [e]; exact HN.out
        · rw [e]; exact hp7.hpred
      clear hx hp7 hlook7
      go_upto_region 10 with fail
      go_region_with ((go_at_call 69; refine (rectify_r r gp gk R1 _ _ _ _ _ _ _ H6d.out).mono ?_; rintro e w7 ⟨rfl, hb7⟩; rw [HX7.out]; have H7 : Hid (RingAt w7 r gp gk R1) := H6d.out.below hb7; have K7 : Hid (Kp w w7 gp gk) := K6.out.trans ((Kp.drawn w6 (w6.drawn + 1) gp gk).trans (Kp.ofBelow hb7)); obtain ⟨w8, e8, h8, k8⟩ := H7.out.putK s0 ⟨(R1.know s0).id, x, (R1.know s0).succ⟩ (a := a7) (len := len7) (cap := cap7) ⟨HP7.out.hid, HX8.out, HP7.out.row.below (Nat.le_refl _) hb7, HP7.out.hcap, HP7.out.hmost, HP7.out.hnil⟩ HCL.out; have c17 := H7.out.c1; have z7 := H7.out.lt.1))
      go_wp2
      all_goals
        go_ret
        refine ⟨by rw [E.out.1]; rfl, ?_, K7.out.trans k8⟩
        rw [E.out.2, HX.out, HR1.out]
        show RingAt w8 r gp gk (R1.setK s0 ⟨(R1.know s0).id, R1.rect (R1.know s0).id (R1.know s0).pred n, (R1.know s0).succ⟩)
        rw [HX7.out]
        exact h8
    · have HX : Hid (R.next n = q) := by rw [HNX.out, hnr]; rfl
      have HI : Hid (i64 q) := HQ.out.1
      clear hnr HNX
      obtain ⟨a4, len4, cap4, hp4, hlook4⟩ := H3.out.asked q
      have HP4 : Hid (PeIn w3 (R.know q).id (R.know q).pred a4 len4 cap4 (R.know q).succ) := hp4
      have c1 := H3.out.c1
      have z := H3.out.lt.1
      clear hp4
      go_wp2_with fail
      refine (follow_any q _ _ a4 len4 cap4 (R.know q).succ _ HI.out HP4.out.row HP4.out.hcap HP4.out.hmost HP4.out.hnil).mono ?_
      rintro e w4 ⟨a5, c5, rfl, h5, hc5, hd5, hfr, hb4⟩
      obtain ⟨m5, hm5⟩ : ∃ m5, m5 = 1 + min len4 2 := ⟨_, rfl⟩
      rw [← hm5] at h5 hc5 ⊢
      have hm5p : 1 ≤ m5 := by omega
      have HF5 : Hid (∀ x, a5 = some x → w.heap.size < x.block) := fun x hx => by have := hfr x hx; omega
      clear hfr
      have H4 : Hid (RingAt w4 r gp gk R) := H3.out.below hb4
      have K4 : Hid (w4.heap[w.heap.size]? = some (.cells #[.int .u64 p.id, .int .i64 p.pred, .slice a len cap] 63 (0, 0))) := (hb4.block _ z3).trans K3.out
      have B4 : Hid (Below w.heap.size w w4) := B3.out.trans (hb4.mono B3.out.size)
      have z4 : w.heap.size < w4.heap.size := by have := hb4.size; omega
      have HP5 : Hid (PeIn w4 p.id p.pred a5 m5 c5 (q :: (R.know q).succ.take 2)) := ⟨HP.out.hid, HP.out.hpred, h5, hc5, hd5, fun e => by have h := h5; subst e; rcases h.2.2 with h0 | ⟨b, o, ha, _⟩; exact h0; cases ha⟩
      clear hb4 hlook4 c1 z h5 hc5 hd5 hm5 hm5p
      obtain ⟨W5, hW5⟩ : ∃ W5, W5 = w4.setCell ⟨w.heap.size, 2, none⟩ (.slice a5 m5 c5) := ⟨_, rfl⟩
      have k4 := K4.out
      have x0 : w4.cell? ⟨w.heap.size, 0, none⟩ = some (.int .u64 p.id) := by simp [World.cell?, k4]
      have x1 : w4.cell? ⟨w.heap.size, 1, none⟩ = some (.int .i64 p.pred) := by simp [World.cell?, k4]
      have x2 : w4.cell? ⟨w.heap.size, 2, none⟩ = some (.slice a len cap) := by simp [World.cell?, k4]
      have xf : ∀ o, w4.frozen? ⟨w.heap.size, o, none⟩ = false := fun o => by simp [World.frozen?, k4]
      have B5 : Hid (Below w.heap.size w W5) := by rw [hW5]; exact B4.out.setCell (by simp) _
      have H5 : Hid (RingAt W5 r gp gk R) := H.out.below B5.out
      have y0 : W5.cell? ⟨w.heap.size, 0, none⟩ = some (.int .u64 p.id) := by rw [hW5]; simp [go_sem, x0]
      have y1 : W5.cell? ⟨w.heap.size, 1, none⟩ = some (.int .i64 p.pred) := by rw [hW5]; simp [go_sem, x1]
      have y2 : W5.cell? ⟨w.heap.size, 2, none⟩ = some (.slice a5 m5 c5) := by rw [hW5]; simp [go_sem, x2]
      have HP6 : Hid (PeIn W5 p.id p.pred a5 m5 c5 (q :: (R.know q).succ.take 2)) := by
        refine ⟨HP5.out.hid, HP5.out.hpred, ?_, HP5.out.hcap, HP5.out.hmost, HP5.out.hnil⟩
        have h := HP5.out.row
        refine ⟨h.1, h.2.1, ?_⟩
        rcases h.2.2 with h0 | ⟨b, o, ha, hlt, hc⟩
        · exact .inl h0
        · refine .inr ⟨b, o, ha, by rw [hW5]; simpa [World.setCell] using hlt, fun i hi => ⟨(hc i hi).1, fun j hj => ?_⟩⟩
          have hne : w.heap.size ≠ b := by have := HF5.out _ ha; simp at this; omega
          rw [hW5, World.cell?_of_block (Below.heap_setCell _ _ _ _ (Ne.symm hne))]
          exact (hc i hi).2 j hj
      obtain ⟨R1, hR1⟩ : ∃ R1, R1 = R.setK n ⟨p.id, p.pred, q :: (R.know q).succ.take 2⟩ := ⟨_, rfl⟩
      have HR1 : Hid (R.learn n q = R1) := by show R.setK n ⟨(R.know n).id, (R.know n).pred, q :: (R.know q).succ.take 2⟩ = R1; rw [EP.out, hR1]
      obtain ⟨w6, e6, h6, k6⟩ := (H5.out.drew (W5.drawn + 1)).putK n ⟨p.id, p.pred, q :: (R.know q).succ.take 2⟩ (HP6.out.below (Nat.le_refl _) (w' := { W5 with drawn := W5.drawn + 1 }) ⟨rfl, rfl, rfl, Nat.le_refl _, fun _ _ => rfl⟩) (fun x hx hc => by have := HF5.out x hx; have := H.out.old _ hc; omega)
      have e6' : (Instr.mapUpdate 113 (.map (some gk)) (.int .i64 n) (.agg #[.int .u64 p.id, .int .i64 p.pred, .slice a5 m5 c5])).run Tryz.prog W5.drew = .ok () w6 := e6
      rw [← hR1] at h6
      have K6 : Hid (Kp w w6 gp gk) := (Kp.ofBelow B5.out).trans ((Kp.drawn W5 (W5.drawn + 1) gp gk).trans k6)
      have H6 : Hid (RingAt w6 r gp gk R1) := h6
      have c1 := H5.out.c1
      have z := H5.out.lt.1
      have z5 : w.heap.size < W5.heap.size := by rw [hW5]; simpa [World.setCell] using z4
      clear e6 h6 k6 hR1
      go_upto_region 9 with fail
      rw [← hW5]
      clear hW5 x0 x1 x2 xf k4 z4
      go_region
      clear c1 z y0 y1 y2 e6'
      have c1 := H6.out.c1
      have z := H6.out.lt.1
      obtain ⟨a7, len7, cap7, hp7, hlook7⟩ := (H6.out.drew (w6.drawn + 1)).asked q
      have hlook7' : (Instr.lookup 113 (.map (some gk)) (.int .i64 q) false).run Tryz.prog w6.drew = .ok (.agg #[.int .u64 (R1.know q).id, .int .i64 (R1.know q).pred, .slice a7 len7 cap7]) w6.drew := hlook7
      have HCL : Hid (∀ x, a7 = some x → ¬ R1.cl x.block) := (H6.out.drew (w6.drawn + 1)).clear hlook7
      have HP7 : Hid (PeIn w6.drew (R1.know q).id (R1.know q).pred a7 len7 cap7 (R1.know q).succ) := hp7
      have H6d : Hid (RingAt w6.drew r gp gk R1) := H6.out.drew (w6.drawn + 1)
      obtain ⟨x, hx⟩ : ∃ x, R1.rect (R1.know q).id (R1.know q).pred n = x := ⟨_, rfl⟩
      have HX7 : Hid _ := hx
      have HX8 : Hid (i64 x) := by
        rw [← hx]
        rcases rect_or R1 (R1.know q).id (R1.know q).pred n with e | e
        · rw [e]; exact HN.out
        · rw [e]; exact hp7.hpred
      clear hx hp7 hlook7
      go_upto_region 10 with fail
      go_region_with ((go_at_call 69; refine (rectify_r r gp gk R1 _ _ _ _ _ _ _ H6d.out).mono ?_; rintro e w7 ⟨rfl, hb7⟩; rw [HX7.out]; have H7 : Hid (RingAt w7 r gp gk R1) := H6d.out.below hb7; have K7 : Hid (Kp w w7 gp gk) := K6.out.trans ((Kp.drawn w6 (w6.drawn + 1) gp gk).trans (Kp.ofBelow hb7)); obtain ⟨w8, e8, h8, k8⟩ := H7.out.putK q ⟨(R1.know q).id, x, (R1.know q).succ⟩ (a := a7) (len := len7) (cap := cap7) ⟨HP7.out.hid, HX8.out, HP7.out.row.below (Nat.le_refl _) hb7, HP7.out.hcap, HP7.out.hmost, HP7.out.hnil⟩ HCL.out; have c17 := H7.out.c1; have z7 := H7.out.lt.1))
      go_wp2
      all_goals
        go_ret
        refine ⟨by rw [E.out.1]; rfl, ?_, K7.out.trans k8⟩
        rw [E.out.2, HX.out, HR1.out]
        show RingAt w8 r gp gk (R1.setK q ⟨(R1.know q).id, R1.rect (R1.know q).id (R1.know q).pred n, (R1.know q).succ⟩)
        rw [HX7.out]
        exact h8
end Go.Proofs.YtgiiadjocfnhlabGreatDoor
