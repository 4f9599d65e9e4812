/- wigwaglaw10.Shows: a ring is the document's. -/
import Derived.Test.YtgiiadjocfnhlaaGreatDoorRfD
import Derived.Test.YtgiiadjocfnhlaaGreatDoorJoinPeSame
namespace Go.Proofs.YtgiiadjocfnhlaaGreatDoor
open Go.ChangeShapes Go.WideShapes Go.ChangeAt Go.RowKit Go.Deep
set_option linter.unusedVariables false

theorem told9_r (id pr : Int) (a : Option Addr) (n c : Nat) (w : World) : Calls Tryz.prog 29 #[.agg #[.int .u64 id, .int .i64 pr, .slice a n c]] w fun e w' => e = .returned (.agg #[.int .u64 id, .int .i64 pr, .slice a n c]) ∧ Below w.heap.size w w' := by
  go_enter Tryz.func29, Tryz.ntmps29
  go_wp2
  refine bodyPost_ret (v := .agg #[.int .u64 id, .int .i64 pr, .slice a n c]) (by simp [results, Tryz.results29, go_sem]) rfl ⟨rfl, ?_⟩
  exact (below_one _ _).trans ((below_one _ _).mono (by simp))
set_option maxHeartbeats 2000000 in
theorem rsame_any (p q : Pe) (a b : Option Addr) (n m c d : Nat) (w : World) (hl : InIn w a n p.succ) (hk : InIn w b m q.succ) :
    Calls Tryz.prog 28 #[.agg #[.int .u64 p.id, .int .i64 p.pred, .slice a n c], .agg #[.int .u64 q.id, .int .i64 q.pred, .slice b m d]] w fun e w' => e = .returned (.bool (peB p q)) ∧ Below w.heap.size w w' := by
  obtain ⟨W1, hW1⟩ : ∃ W1, W1 = (w.alloc (.cells #[.int .u64 p.id, .int .i64 p.pred, .slice a n c] 71)).alloc (.cells #[.int .u64 q.id, .int .i64 q.pred, .slice b m d] 71) := ⟨_, rfl⟩
  have b1 : Below w.heap.size w W1 := by rw [hW1]; exact (below_one _ _).trans ((below_one _ _).mono (by simp))
  have e0 : W1.heap[w.heap.size]? = some (.cells #[.int .u64 p.id, .int .i64 p.pred, .slice a n c] 71 (0, 0)) := by rw [hW1, Below.heap_alloc _ _ _ (by simp)]; exact heap_alloc_new w _
  have e1 : W1.heap[w.heap.size + 1]? = some (.cells #[.int .u64 q.id, .int .i64 q.pred, .slice b m d] 71 (0, 0)) := by
    rw [hW1]; simpa using heap_alloc_new (w.alloc (.cells #[.int .u64 p.id, .int .i64 p.pred, .slice a n c] 71)) (.cells #[.int .u64 q.id, .int .i64 q.pred, .slice b m d] 71)
  obtain ⟨x0, x1, x2, z0⟩ := c3_block e0
  obtain ⟨y0, y1, y2, z1⟩ := c3_block e1
  have HB : Hid (Below w.heap.size w W1) := b1
  have HL : Hid (InIn W1 a n p.succ ∧ InIn W1 b m q.succ) := ⟨hl.below (Nat.le_refl _) b1, hk.below (Nat.le_refl _) b1⟩
  have HP : Hid (peB p q = (p.id == q.id && (p.pred == q.pred && intsB p.succ q.succ))) := rfl
  clear b1 e0 e1 hl hk
  obtain ⟨i1, p1, s1⟩ := p
  obtain ⟨i2, p2, s2⟩ := q
  simp only at x0 x1 y0 y1 HL HP hW1
  cases hi : i1 == i2
  · rw [hi] at HP
    go_enter Tryz.func28, Tryz.ntmps28
    go_upto_region 1 with fail
    rw [← hW1]
    clear hW1
    go_wp2
    go_ret
    exact ⟨ret_b (by rw [HP.out]; rfl), HB.out⟩
  · rw [hi] at HP
    cases hp : p1 == p2
    · rw [hp] at HP
      go_enter Tryz.func28, Tryz.ntmps28
      go_upto_region 1 with fail
      rw [← hW1]
      clear hW1
      go_wp2
      go_ret
      exact ⟨ret_b (by rw [HP.out]; rfl), HB.out⟩
    · rw [hp] at HP
      go_enter Tryz.func28, Tryz.ntmps28
      go_upto_region 1 with fail
      rw [← hW1]
      clear hW1
      go_wp2_with (go_at_call 45; refine (ints_any a n c s1 b m d s2 _ HL.out.1 HL.out.2).mono ?_; rintro e w' ⟨rfl, hb'⟩)
      go_ret
      exact ⟨ret_b (by rw [HP.out]; rfl), HB.out.trans (hb'.mono HB.out.size)⟩
theorem ints_refl (l : List Int) : intsB l l = true := ints_all rfl (fun _ _ => rfl)
theorem peB_self (p : Pe) : peB p p = true := by simp [peB, ints_refl]
/-- What a member of the document's ring knows lies in its three cells. -/
theorem RfV.peer {w : World} {R : Rg} {ua la ia pa : Option Addr} {uc lc ic pc : Nat} (h : RfV w R (.agg #[.slice ua 32 uc, .slice la 32 lc, .slice ia 32 ic, .slice pa 32 pc])) {k : Nat} (hk : k < 32) {x : Pe} (hx : R.kn k = some x) :
    ∃ b o a len cap, pa = some ⟨b, o, none⟩ ∧ b < w.heap.size ∧ w.cell? ⟨b, o + k * 3, none⟩ = some (.int .u64 x.id) ∧ w.cell? ⟨b, o + k * 3 + 1, none⟩ = some (.int .i64 x.pred) ∧ w.cell? ⟨b, o + k * 3 + 2, none⟩ = some (.slice a len cap) ∧ PeIn w x.id x.pred a len cap x.succ := by
  obtain ⟨ua', uc', la', lc', ia', ic', pa', pc', P, e, h1, h2, h3, h4, h5⟩ := h.ex
  simp at e
  obtain ⟨⟨rfl, rfl⟩, ⟨rfl, rfl⟩, ⟨rfl, rfl⟩, rfl, rfl⟩ := e
  rcases h4.2.2 with h0 | ⟨b, o, ha, hlt, hc⟩
  · omega
  · have q := (hc k hk).2
    have p := h5 k hk x hx
    have q0 : w.cell? ⟨b, o + k * 3, none⟩ = some (.int .u64 (P.getD k pr30).id) := q 0 (by omega)
    have q1 : w.cell? ⟨b, o + k * 3 + 1, none⟩ = some (.int .i64 (P.getD k pr30).pred) := q 1 (by omega)
    have q2 : w.cell? ⟨b, o + k * 3 + 2, none⟩ = some (.slice (P.getD k pr30).a (P.getD k pr30).len (P.getD k pr30).cap) := q 2 (by omega)
    rw [p.1] at q0
    rw [p.2.1] at q1
    exact ⟨b, o, _, _, _, ha, hlt, q0, q1, q2, p.2.2⟩
/-- The places, also of whom there is none. -/
theorem idI_pl {R : Rg} (h : PlR R) (n : Int) : idI (idL R) n = R.idOf n := by
  by_cases h0 : n < 0
  · rw [id_neg h0]; unfold Rg.idOf; rw [h n (.inl h0)]; rfl
  · by_cases h1 : n < 32
    · exact idI_R (by omega) h1
    · rw [id_out (by simp [idL]; omega)]; unfold Rg.idOf; rw [h n (.inr (by omega))]; rfl

set_option maxRecDepth 100000 in
set_option maxHeartbeats 8000000 in
theorem shows_r (r gp gk : Nat) (R : Rg) (v : Value) (w : World) (hE : ErrType w) (h : RingAt w r gp gk R) (hi : Inv R) (hv : RfV w R v) (hpl : PlR R) :
    Calls Tryz.prog 14 #[.pointer (some ⟨r, 0, none⟩), v] w fun e w' => e = .returned (.int .i64 0) ∧ Below w.heap.size w w' := by
  obtain ⟨x0, x1, x2, x3, rfl, ua, uc, la, lc, ia, ic, pa, pc, rfl, rfl, rfl, rfl⟩ := hv.shape
  obtain ⟨W1, hW1⟩ : ∃ W1, W1 = w.alloc (.cells #[.slice ua 32 uc, .slice la 32 lc, .slice ia 32 ic, .slice pa 32 pc] 35) := ⟨_, rfl⟩
  have b1 : Below w.heap.size w W1 := by rw [hW1]; exact below_one _ _
  have e0 : W1.heap[w.heap.size]? = some (.cells #[.slice ua 32 uc, .slice la 32 lc, .slice ia 32 ic, .slice pa 32 pc] 35 (0, 0)) := by rw [hW1]; exact heap_alloc_new w _
  have HB1 : Hid (Below w.heap.size w W1) := b1
  have HBX : Hid (W1.heap[w.heap.size]? = some (.cells #[.slice ua 32 uc, .slice la 32 lc, .slice ia 32 ic, .slice pa 32 pc] 35 (0, 0))) := e0
  have HR : Hid (∀ W, Below W1.heap.size W1 W → RingAt W r gp gk R) := fun W hW => (h.below b1).below hW
  have HV : Hid (∀ W, Below W1.heap.size W1 W → RfV W R (.agg #[.slice ua 32 uc, .slice la 32 lc, .slice ia 32 ic, .slice pa 32 pc])) := fun W hW => (hv.below b1).below hW
  have HE : Hid (∀ W, Below W1.heap.size W1 W → ErrType W) := fun W hW => (hE.below hE.lt (b1.mono (Nat.le_refl _))).below (Nat.lt_of_lt_of_le hE.lt b1.size) hW
  have HI : Hid (Inv R ∧ PlR R) := ⟨hi, hpl⟩
  have HW : Hid (∀ W, Below W1.heap.size W1 W → RfW W (lvL R) (idL R) (.agg #[.slice la 32 lc, .slice ia 32 ic])) := fun W hW => by
    obtain ⟨ua', uc', la', lc', ia', ic', pa', pc', P, e, h1, h2, h3, h4, h5⟩ := (HV.out W hW).ex
    simp at e
    obtain ⟨⟨rfl, rfl⟩, ⟨rfl, rfl⟩, ⟨rfl, rfl⟩, rfl, rfl⟩ := e
    exact ⟨la, 32, lc, ia, 32, ic, rfl, h2, h3⟩
  have hll : R.live.length ≤ 32 := liveTo_len R 32
  obtain ⟨y0, y1, y2, y3, yl⟩ := c4_block e0
  clear b1 e0 h hi hv hE hpl
  go_enter Tryz.func14, Tryz.ntmps14
  go_upto_region 1 with fail
  rw [← hW1]
  clear hW1
  obtain ⟨L, hL⟩ : ∃ L, L = R.live := ⟨_, rfl⟩
  have HLI : Hid (L = R.live) := hL
  go_cut [13] (fun u wx => u = .bool false ∧ Hid (Below W1.heap.size W1 wx))
  case first =>
    rw [← hL] at hll
    clear hL
    have HLV : Hid (∀ W, Below W1.heap.size W1 W → Calls Tryz.prog 32 #[.pointer (some ⟨r, 0, none⟩)] W fun e w' => ∃ a c, e = .returned (.slice a L.length c) ∧ InIn w' a L.length L ∧ Below W.heap.size W w') := fun W hW => by
      rw [HLI.out]
      refine (live_r r gp gk R W (HR.out W hW)).mono ?_
      rintro e w' ⟨a, c, h1, h2, _, h3⟩
      exact ⟨a, c, h1, h2, h3⟩
    have HRL : Hid (∀ W, Below W1.heap.size W1 W → Calls Tryz.prog 19 #[.agg #[.slice ua 32 uc, .slice la 32 lc, .slice ia 32 ic, .slice pa 32 pc]] W fun e w' => ∃ a c, e = .returned (.slice a L.length c) ∧ InIn w' a L.length L ∧ Below W.heap.size W w') := fun W hW => by
      rw [HLI.out]
      refine (rlive_r R _ W (HV.out W hW)).mono ?_
      rintro e w' ⟨a, c, h1, h2, _, h3⟩
      exact ⟨a, c, h1, h2, h3⟩
    go_region_with (first
      | (go_at_call 32; refine Calls.mono (HLV.out _ (by first | exact BV.out | exact ⟨rfl, rfl, rfl, Nat.le_refl _, fun _ _ => rfl⟩)) ?_; rintro e wL ⟨aL, cL, rfl, hL, bL⟩
         have BL : Hid (Below W1.heap.size W1 wL) := by first | exact BV.out.trans (bL.mono BV.out.size) | exact ⟨bL.os, bL.tape, bL.output, bL.size, bL.block⟩
         have IL : Hid (InIn wL aL L.length L) := hL
         try (have IV2 : Hid (InIn wL aV L.length L) := IV.out.below (Nat.le_refl _) bL)
         have y0' := cell_grown y0 BL.out
         have y1' := cell_grown y1 BL.out
         have y2' := cell_grown y2 BL.out
         have y3' := cell_grown y3 BL.out
         clear hL bL)
      | (go_at_call 19; refine Calls.mono (HRL.out _ (by first | exact BL.out | exact ⟨rfl, rfl, rfl, Nat.le_refl _, fun _ _ => rfl⟩)) ?_; rintro e wV ⟨aV, cV, rfl, hV, bV⟩
         have BV : Hid (Below W1.heap.size W1 wV) := by first | exact BL.out.trans (bV.mono BL.out.size) | exact ⟨bV.os, bV.tape, bV.output, bV.size, bV.block⟩
         have IV : Hid (InIn wV aV L.length L) := hV
         try (have IL2 : Hid (InIn wV aL L.length L) := IL.out.below (Nat.le_refl _) bV)
         clear hV bV)
      | (go_at_call 45; refine (ints_any aL L.length cL L aV L.length cV L _ (by first | exact IL2.out | exact IL.out) (by first | exact IV2.out | exact IV.out)).mono ?_; rintro e wI ⟨rfl, bI⟩
         rw [ints_refl]
         have BI : Hid (Below W1.heap.size W1 wI) := by first | exact BL.out.trans (bI.mono BL.out.size) | exact BV.out.trans (bI.mono BV.out.size)
         clear bI))
    all_goals
      go_wp2
      go_meet
      exact ⟨by simp, BI.out⟩
  case rest =>
    obtain ⟨rfl, HC⟩ := hcut
    clear hL HLI
    clear y0 y1 y2 y3 yl
    go_wp2
    go_loopg [5] 34 (fun kx s wr => ∃ k : Nat, s = .int .i64 ((k : Int) - 1) ∧ k ≤ 34 ∧ kx = 34 - k ∧ Hid (Below W1.heap.size W1 wr))
    case atStart => exact ⟨0, by simp, by omega, rfl, HC.out⟩
    case round =>
      obtain ⟨k, rfl, hk, rfl, HB⟩ := hrel
      clear HC
      by_cases hlt : k < 34
      · obtain ⟨n, hn⟩ : ∃ n : Int, n = (k : Int) - 1 := ⟨_, rfl⟩
        rw [← hn]
        have hn33 : n < 33 := by omega
        have hn1 : -1 ≤ n := by omega
        have HN : Hid (n = (k : Int) - 1) := hn
        clear hn
        obtain ⟨lv, hlv⟩ : ∃ lv, lv = R.lives n := ⟨_, rfl⟩
        obtain ⟨idn, hid⟩ : ∃ idn, idn = R.idOf n := ⟨_, rfl⟩
        have HLN : Hid (R.lives n = lv ∧ livesB (lvL R) n = lv ∧ R.idOf n = idn ∧ idI (idL R) n = idn) := ⟨hlv.symm, by rw [livesB_R HI.out.1, hlv], hid.symm, by rw [idI_pl HI.out.2, hid]⟩
        clear hlv hid
        have hbx : wr.heap[w.heap.size]? = some (.cells #[.slice ua 32 uc, .slice la 32 lc, .slice ia 32 ic, .slice pa 32 pc] 35 (0, 0)) := (HB.out.block _ (lt_of_block HBX.out)).trans HBX.out
        obtain ⟨y0, y1, y2, y3, yl⟩ := c4_block hbx
        go_upto_region 6 with fail
        obtain ⟨ι, F, _, hF0, hFb, hFc⟩ := grown_fam wr
        have f1 : ∀ i, (F i).cell? ⟨w.heap.size, 1, none⟩ = _ := fun i => cell_grown y1 (hFb i)
        have f2 : ∀ i, (F i).cell? ⟨w.heap.size, 2, none⟩ = _ := fun i => cell_grown y2 (hFb i)
        have HF : Hid ((∃ i, { wr with drawn := wr.drawn + 1 } = F i) ∧ (∀ i, Below wr.heap.size wr (F i)) ∧ (∀ i W, Below wr.heap.size (F i) W → ∃ j, W = F j)) := ⟨hF0, hFb, hFc⟩
        have HF1 : Hid (∀ i, Below W1.heap.size W1 (F i)) := fun i => HB.out.trans ((hFb i).mono HB.out.size)
        clear hF0 hFb hFc y0 y1 y2 y3
        have nb : (lv != lv) = false := by simp
        have ni : (idn != idn) = false := by simp
        refine wp_region_fam F HF.out.1 (by kernel_rfl) (by kernel_rfl) ?_
        repeat (go_big_quiet_step (first
          | (go_at_call 31; refine (lives_r r gp gk R n _ (HR.out _ (HF1.out _))).mono ?_; rintro e' w' ⟨hs, hb⟩; exact ⟨by rw [hs, HLN.out.1], HF.out.2.2 _ _ (hb.mono (HF.out.2.1 _).size)⟩)
          | (go_at_call 25; refine (rlives_r (lvL R) (idL R) _ n _ (HW.out _ (HF1.out _))).mono ?_; rintro e' w' ⟨hs, hb⟩; exact ⟨by rw [hs, HLN.out.2.1], HF.out.2.2 _ _ (hb.mono (HF.out.2.1 _).size)⟩)
          | (go_at_call 46; refine (id_r r gp gk R n _ (HR.out _ (HF1.out _))).mono ?_; rintro e' w' ⟨hs, hb⟩; exact ⟨by rw [hs, HLN.out.2.2.1], by subst hb; exact ⟨_, rfl⟩⟩)
          | (go_at_call 53; refine (rid_r (lvL R) (idL R) _ n _ (HW.out _ (HF1.out _))).mono ?_; rintro e' w' ⟨hs, hb⟩; exact ⟨by rw [hs, HLN.out.2.2.2], HF.out.2.2 _ _ (hb.mono (HF.out.2.1 _).size)⟩)))
        refine wpQuiet_nil ?_
        rintro _ ⟨i2, rfl⟩
        have H2 : Hid (Below W1.heap.size W1 (F i2)) := HF1.out i2
        clear f1 f2 HF HF1 yl
        generalize F i2 = W2 at H2 ⊢
        cases lv
        · have hkn : R.kn n = none := by
            have := HLN.out.1
            unfold Rg.lives at this
            cases hq : R.kn n with
            | none => rfl
            | some x => rw [hq] at this; simp at this
          have HKN : Hid (R.kn n = none) := hkn
          clear hkn
          go_wp2_with fail
          refine (peer_none r gp gk R n _ (HR.out _ H2.out) HKN.out).mono ?_
          rintro e w3 ⟨rfl, b3⟩
          obtain ⟨W4, hW4⟩ : ∃ W4, W4 = w3.alloc (.cells #[.int .u64 0, .int .i64 0, .slice none 0 0] 63) := ⟨_, rfl⟩
          have H4 : Hid (Below W1.heap.size W1 W4) := by
            have q := H2.out.trans (b3.mono H2.out.size)
            rw [hW4]; exact q.trans ((below_one _ _).mono q.size)
          have hbx : W4.heap[w.heap.size]? = some (.cells #[.slice ua 32 uc, .slice la 32 lc, .slice ia 32 ic, .slice pa 32 pc] 35 (0, 0)) := (H4.out.block _ (lt_of_block HBX.out)).trans HBX.out
          obtain ⟨y0, y1, y2, y3, yl⟩ := c4_block hbx
          clear b3
          go_upto_region 9 with fail
          rw [← hW4]
          clear hW4
          go_wp2_with fail
          refine (rlives_r (lvL R) (idL R) _ n _ (HW.out _ H4.out)).mono ?_
          rintro e w5 ⟨rfl, b5⟩
          rw [HLN.out.2.1]
          have H5 : Hid (Below W1.heap.size W1 w5) := H4.out.trans (b5.mono H4.out.size)
          clear b5 y0 y1 y2 y3 yl hbx
          go_wp2_with fail
          refine (of_code 6 _ (HE.out _ H5.out)).mono ?_
          rintro e w6 ⟨rfl, b6⟩
          go_wp2
          go_roundg (34 - (k + 1))
          case measure => omega
          case rel => exact ⟨k + 1, by rw [HN.out]; go_num, by omega, rfl, H5.out.trans (b6.mono H5.out.size)⟩
        · obtain ⟨p, hkn⟩ : ∃ p, R.kn n = some p := by
            have := HLN.out.1
            unfold Rg.lives at this
            cases hq : R.kn n with
            | none => rw [hq] at this; simp at this
            | some x => exact ⟨x, rfl⟩
          have hrg := HI.out.1.rng n HLN.out.1
          obtain ⟨m, rfl⟩ : ∃ m : Nat, n = (m : Int) := ⟨n.toNat, by omega⟩
          have hm : m < 32 := by omega
          have hpl := HI.out.1.lens _ _ hkn
          have HKN : Hid (R.kn m = some p ∧ p.succ.length ≤ 1000) := ⟨hkn, by omega⟩
          clear hkn hpl hrg
          go_wp2_with fail
          refine (peer_some r gp gk R m p _ (HR.out _ H2.out) HKN.out.1 HKN.out.2).mono ?_
          rintro e w3 ⟨a3, l3, c3, rfl, h3, b3⟩
          obtain ⟨pid, ppr, psc⟩ := p
          simp only at h3 ⊢
          obtain ⟨W4, hW4⟩ : ∃ W4, W4 = w3.alloc (.cells #[.int .u64 pid, .int .i64 ppr, .slice a3 l3 c3] 63) := ⟨_, rfl⟩
          have H4 : Hid (Below W1.heap.size W1 W4 ∧ InIn W4 a3 l3 psc ∧ W4.heap[w3.heap.size]? = some (.cells #[.int .u64 pid, .int .i64 ppr, .slice a3 l3 c3] 63 (0, 0))) := by
            have q := H2.out.trans (b3.mono H2.out.size)
            rw [hW4]; exact ⟨q.trans ((below_one _ _).mono q.size), h3.row.below (Nat.le_refl _) (below_one _ _), heap_alloc_new w3 _⟩
          have hbx : W4.heap[w.heap.size]? = some (.cells #[.slice ua 32 uc, .slice la 32 lc, .slice ia 32 ic, .slice pa 32 pc] 35 (0, 0)) := (H4.out.1.block _ (lt_of_block HBX.out)).trans HBX.out
          obtain ⟨y0, y1, y2, y3, yl⟩ := c4_block hbx
          clear b3 h3
          go_upto_region 9 with fail
          rw [← hW4]
          clear hW4
          generalize w3.heap.size = q3 at H4 ⊢
          go_wp2_with fail
          refine (rlives_r (lvL R) (idL R) _ m _ (HW.out _ H4.out.1)).mono ?_
          rintro e w5 ⟨rfl, b5⟩
          rw [HLN.out.2.1]
          have H5 : Hid (Below W1.heap.size W1 w5 ∧ InIn w5 a3 l3 psc ∧ w5.heap[q3]? = some (.cells #[.int .u64 pid, .int .i64 ppr, .slice a3 l3 c3] 63 (0, 0))) := ⟨H4.out.1.trans (b5.mono H4.out.1.size), H4.out.2.1.below (Nat.le_refl _) b5, (b5.block _ (lt_of_block H4.out.2.2)).trans H4.out.2.2⟩
          clear b5 y0 y1 y2 y3 yl hbx H4
          have hbx : w5.heap[w.heap.size]? = some (.cells #[.slice ua 32 uc, .slice la 32 lc, .slice ia 32 ic, .slice pa 32 pc] 35 (0, 0)) := (H5.out.1.block _ (lt_of_block HBX.out)).trans HBX.out
          obtain ⟨y0, y1, y2, y3, yl⟩ := c4_block hbx
          obtain ⟨u0, u1, u2, ul⟩ := c3_block H5.out.2.2
          obtain ⟨bb, bo, ba, bl, bc, hpa, hbl, v0, v1, v2, hpe⟩ := (HV.out _ H5.out.1).peer hm HKN.out.1
          subst hpa
          simp only at v0 v1 v2
          have HPE : Hid (InIn w5 ba bl psc) := hpe.row
          clear hpe
          go_upto_region 12 with fail
          obtain ⟨ι, F, _, hF0, hFb, hFc⟩ := grown_fam w5
          have f3 : ∀ i, (F i).cell? ⟨w.heap.size, 2, none⟩ = _ := fun i => cell_grown y2 (hFb i)
          have f4 : ∀ i, (F i).cell? ⟨w.heap.size, 3, none⟩ = _ := fun i => cell_grown y3 (hFb i)
          have g0 : ∀ i, (F i).cell? ⟨q3, 0, none⟩ = _ := fun i => cell_grown u0 (hFb i)
          have g1 : ∀ i, (F i).cell? ⟨q3, 1, none⟩ = _ := fun i => cell_grown u1 (hFb i)
          have g2 : ∀ i, (F i).cell? ⟨q3, 2, none⟩ = _ := fun i => cell_grown u2 (hFb i)
          have k0 : ∀ i, (F i).cell? ⟨bb, bo + m * 3, none⟩ = _ := fun i => cell_grown v0 (hFb i)
          have k1 : ∀ i, (F i).cell? ⟨bb, bo + m * 3 + 1, none⟩ = _ := fun i => cell_grown v1 (hFb i)
          have k2 : ∀ i, (F i).cell? ⟨bb, bo + m * 3 + 2, none⟩ = _ := fun i => cell_grown v2 (hFb i)
          have HF : Hid ((∃ i, { w5 with drawn := w5.drawn + 1 } = F i) ∧ (∀ i, Below w5.heap.size w5 (F i)) ∧ (∀ i W, Below w5.heap.size (F i) W → ∃ j, W = F j)) := ⟨hF0, hFb, hFc⟩
          have HF2 : Hid (∀ i, InIn (F i) a3 l3 psc ∧ InIn (F i) ba bl psc) := fun i => ⟨H5.out.2.1.below (Nat.le_refl _) (hFb i), HPE.out.below (Nat.le_refl _) (hFb i)⟩
          clear hF0 hFb hFc y0 y1 y2 y3 u0 u1 u2 v0 v1 v2
          refine wp_region_fam F HF.out.1 (by kernel_rfl) (by kernel_rfl) ?_
          repeat (go_big_quiet_step (first
            | (go_at_call 29; refine (told9_r pid ppr a3 l3 c3 _).mono ?_; rintro e' w' ⟨hs, hb⟩; exact ⟨by rw [hs], HF.out.2.2 _ _ (hb.mono (HF.out.2.1 _).size)⟩)
            | (go_at_call 28; refine (rsame_any ⟨pid, ppr, psc⟩ ⟨pid, ppr, psc⟩ a3 ba l3 bl c3 bc _ (HF2.out _).1 (HF2.out _).2).mono ?_; rintro e' w' ⟨hs, hb⟩; exact ⟨by rw [hs, peB_self], HF.out.2.2 _ _ (hb.mono (HF.out.2.1 _).size)⟩)))
          refine wpQuiet_nil ?_
          rintro _ ⟨i3, rfl⟩
          have H6 : Hid (Below W1.heap.size W1 (F i3)) := H5.out.1.trans ((HF.out.2.1 i3).mono H5.out.1.size)
          clear f3 f4 g0 g1 g2 k0 k1 k2 HF HF2 yl ul hbl
          generalize F i3 = W6 at H6 ⊢
          go_wp2
          go_roundg (34 - (k + 1))
          case measure => omega
          case rel => exact ⟨k + 1, by rw [HN.out]; go_num, by omega, rfl, H6.out⟩
      · obtain rfl : k = 34 := by omega
        go_wp2
        go_ret
        exact ⟨rfl, HB1.out.trans (HB.out.mono HB1.out.size)⟩
end Go.Proofs.YtgiiadjocfnhlaaGreatDoor
