/- For every world of addresses, each at a place of its own, every peer and every list of addresses: however many say that they are ahead, the one ahead is at last one of them or who it was, and none of those that live is nearer.
  The frame is the guide's own shell (proof-skeleton.mjs) at this function; the walk and all ahead of it are mine. -/
import Derived.Test.YthniahbbnknkoaaRows
import Derived.Test.YthniahbbnknkoaaPrAwake
import Derived.Deep.CutBlock
import Derived.Deep.DeepCutAuto
import Derived.Deep.LoopGhost
import Derived.WalkKit
import Derived.WalkLawsBesides
import Derived.ProofKit
import Derived.OpenShut
import Derived.ShutString
import Derived.ChangeOld
import Derived.Below
namespace Go.Proofs.Ythniahbbnknkoaa.peerCloser
open Go.ChangeShapes Go.WideShapes Go.ChangeAt Go.RowKit
open Go.ChangeMaps (open_string shut_string)
set_option linter.unusedVariables false

theorem own : ownKnob Try.prog.godebug = none := by kernel_rfl
theorem laidOut : laidOutB Try.prog = true := by kernel_rfl


/-- The nearer one is within. -/
theorem within_near (x a b : Int) (hx : u64 x) (ha : u64 a) (hb : u64 b) (h1 : a ≠ b) (h2 : x ≠ b) : withinB x a b = decide (dist x b < dist a b) := by
  unfold u64 at hx ha hb
  by_cases e : x = a
  · subst e; simp [withinB]
  · rw [within_of x a b e h1]
    have : dist a x < dist a b ↔ dist x b < dist a b := by unfold dist; omega
    simp [this]
/-- Who is nearest, as the law reckons it. -/
def bestI (lv : List Bool) (ids : List Int) (id best n : Int) : Int := if best == -1 || !livesB lv best || decide (dist (idI ids n) id < dist (idI ids best) id) then n else best
theorem best_rect {lv : List Bool} {ids : List Int} {id best n : Int} (hid : u64 id) (hids : ∀ n, u64 (idI ids n)) (hne : ∀ n, livesB lv n = true → idI ids n ≠ id) (hn : livesB lv n = true) : rectI lv ids id best n = bestI lv ids id best n := by
  unfold rectI bestI
  cases hb : livesB lv best
  · simp
  · have h1 := lives_in hb
    have h2 := lives_in hn
    have e1 : (best == -1) = false := by simp; omega
    have e2 : (n != -1) = true := by simp; omega
    rw [e1, e2, within_near _ _ _ (hids n) (hids best) hid (hne best hb) (hne n hn)]
    simp
theorem best_of {lv : List Bool} {ids : List Int} {id best n start : Int} (h : best = start ∨ livesB lv best = true) (hn : livesB lv n = true) : bestI lv ids id best n = start ∨ livesB lv (bestI lv ids id best n) = true := by
  unfold bestI; split
  · exact .inr hn
  · exact h
/-- What the third loop keeps. -/
structure Keep (w wr : World) (a0 b0 a1 : Option Addr) (len0 cap0 ln0 cp0 len1 cap1 : Nat) (id1 best : Int) : Prop where
  bel : Below w.heap.size w wr
  size : w.heap.size + 1 < wr.heap.size
  c0 : wr.cell? ⟨w.heap.size, 0, none⟩ = some (.slice a0 len0 cap0)
  c1 : wr.cell? ⟨w.heap.size, 1, none⟩ = some (.slice b0 ln0 cp0)
  d0 : wr.cell? ⟨w.heap.size + 1, 0, none⟩ = some (.int .u64 id1)
  d1 : wr.cell? ⟨w.heap.size + 1, 1, none⟩ = some (.int .i64 best)
  d2 : wr.cell? ⟨w.heap.size + 1, 2, none⟩ = some (.slice a1 len1 cap1)
  fr : ∀ o, wr.frozen? ⟨w.heap.size + 1, o, none⟩ = false
theorem Keep.below {w wr w' : World} {a0 b0 a1 : Option Addr} {len0 cap0 ln0 cp0 len1 cap1 : Nat} {id1 best : Int} (h : Keep w wr a0 b0 a1 len0 cap0 ln0 cp0 len1 cap1 id1 best) (hb : Below wr.heap.size wr w') : Keep w w' a0 b0 a1 len0 cap0 ln0 cp0 len1 cap1 id1 best :=
  ⟨h.bel.trans (hb.mono h.bel.size), by have := h.size; have := hb.size; omega, cell_grown h.c0 hb, cell_grown h.c1 hb, cell_grown h.d0 hb, cell_grown h.d1 hb, cell_grown h.d2 hb, fun o => (hb.frozen (p := ⟨w.heap.size + 1, o, none⟩) h.size).trans (h.fr o)⟩
theorem Keep.set {w wr : World} {a0 b0 a1 : Option Addr} {len0 cap0 ln0 cp0 len1 cap1 : Nat} {id1 best : Int} (h : Keep w wr a0 b0 a1 len0 cap0 ln0 cp0 len1 cap1 id1 best) (r : Int) :
    Keep w (((wr.setCell ⟨w.heap.size + 1, 0, none⟩ (.int .u64 id1)).setCell ⟨w.heap.size + 1, 1, none⟩ (.int .i64 r)).setCell ⟨w.heap.size + 1, 2, none⟩ (.slice a1 len1 cap1)) a0 b0 a1 len0 cap0 ln0 cp0 len1 cap1 id1 r := by
  refine ⟨((h.bel.setCell (by simp) _).setCell (by simp) _).setCell (by simp) _, by simpa [World.setCell] using h.size, ?_, ?_, ?_, ?_, ?_, ?_⟩
  · rw [cell_far (by simp), cell_far (by simp), cell_far (by simp)]; exact h.c0
  · rw [cell_far (by simp), cell_far (by simp), cell_far (by simp)]; exact h.c1
  · simp [go_sem, h.d0]
  · simp [go_sem, h.d1]
  · simp [go_sem, h.d2]
  · intro o; simpa [go_sem] using h.fr o
/-! ### STEP 1: the walk -/
set_option maxRecDepth 100000 in
set_option maxHeartbeats 2000000 in
theorem walk (a0 : Option Addr) (len0 cap0 : Nat) (lv0 : List Bool) (b0 : Option Addr) (ln0 cp0 : Nat) (ids0 : List Int) (id1 pr1 : Int) (a1 : Option Addr) (len1 cap1 : Nat) (l1 : List Int) (a2 : Option Addr) (len2 cap2 : Nat) (t2 : List Int) (w : World) (w0 : LvIn w a0 len0 lv0) (z0 : IdIn w b0 ln0 ids0) (y0 : ln0 ≤ cp0) (w1 : PeIn w id1 pr1 a1 len1 cap1 l1) (w2 : InRow 1 encI i64 0 w a2 len2 t2) :
    Calls Try.prog 3 #[.agg #[.slice a0 len0 cap0, .slice b0 ln0 cp0], .agg #[.int .u64 id1, .int .i64 pr1, .slice a1 len1 cap1], .slice a2 len2 cap2] w fun e w' => e = .returned (.bool true) ∧ Below w.heap.size w w' := by
  have HV : Hid (LvIn w a0 len0 lv0) := w0
  have HI : Hid (IdIn w b0 ln0 ids0) := z0
  have HP : Hid (PeIn w id1 pr1 a1 len1 cap1 l1) := w1
  have HL : Hid (InIn w a2 len2 t2) := w2
  have hm0 := w0.2.1
  have hm1 := z0.2.1
  have hm2 := w2.2.1
  obtain ⟨W1, hW1⟩ : ∃ W1, W1 = (w.alloc (.cells #[.slice a0 len0 cap0, .slice b0 ln0 cp0] 25)).alloc (.cells #[.int .u64 id1, .int .i64 pr1, .slice a1 len1 cap1] 30) := ⟨_, rfl⟩
  have HK : Hid (Keep w W1 a0 b0 a1 len0 cap0 ln0 cp0 len1 cap1 id1 pr1) := by
    rw [hW1]; refine ⟨(below_one _ _).trans ((below_one _ _).mono (by simp)), ?_, ?_, ?_, ?_, ?_, ?_, fun o => ?_⟩ <;> simp
  clear w0 z0 w1 w2
  by_cases q0 : 40 < len0
  · clear hW1
    go_enter Try.func3, Try.ntmps3
    go_wp2_with (go_at_call 7; refine (awake9_any _).mono ?_; rintro e w' ⟨rfl, hb⟩)
    go_ret
    exact ⟨rfl, ((below_one _ _).trans ((below_one _ _).mono (by simp))).trans (hb.mono (by simp; omega))⟩
  by_cases q1 : ln0 ≠ len0
  · have q1' : ((ln0 : Int) != (len0 : Int)) = true := by simp; omega
    clear hW1
    go_enter Try.func3, Try.ntmps3
    go_wp2_with (go_at_call 7; refine (awake9_any _).mono ?_; rintro e w' ⟨rfl, hb⟩)
    go_ret
    exact ⟨rfl, ((below_one _ _).trans ((below_one _ _).mono (by simp))).trans (hb.mono (by simp; omega))⟩
  obtain rfl : ln0 = len0 := by omega
  have q1' : ((ln0 : Int) != (ln0 : Int)) = false := by simp
  by_cases q2 : 40 < len2
  · clear hW1
    go_enter Try.func3, Try.ntmps3
    go_wp2_with (go_at_call 7; refine (awake9_any _).mono ?_; rintro e w' ⟨rfl, hb⟩)
    go_ret
    exact ⟨rfl, ((below_one _ _).trans ((below_one _ _).mono (by simp))).trans (hb.mono (by simp; omega))⟩
  go_enter Try.func3, Try.ntmps3
  go_wp2
  rw [← hW1]
  clear hW1
  go_loopg [35] ln0 (fun kx s wr => ∃ k : Nat, s = .int .i64 k ∧ k ≤ ln0 ∧ kx = ln0 - k ∧ Hid (Keep w wr a0 b0 a1 ln0 cap0 ln0 cp0 len1 cap1 id1 pr1) ∧ Hid (∀ i, i < k → ids0.getD i 0 ≠ id1))
  case atStart => exact ⟨0, rfl, Nat.zero_le _, rfl, HK, (fun i hi => absurd hi (Nat.not_lt_zero _) : ∀ i, i < 0 → ids0.getD i 0 ≠ id1)⟩
  case round =>
    obtain ⟨i, rfl, hi, rfl, HB, I⟩ := hrel
    clear HK
    by_cases hlt : i < ln0
    · have c0 := HB.out.c0
      have c1 := HB.out.c1
      have d0 := HB.out.d0
      have zz := HB.out.size
      have hic : i ≤ cp0 := by omega
      go_wp2
      obtain ⟨w5, hw5⟩ : ∃ w5, w5 = wr := ⟨_, rfl⟩
      have HB5 : Hid (Keep w w5 a0 b0 a1 ln0 cap0 ln0 cp0 len1 cap1 id1 pr1) := by rw [hw5]; exact HB.out
      rw [← hw5]
      clear hw5 HB c0 c1 d0 zz
      go_loopg [43] i (fun kx s wq => ∃ k : Nat, s = .int .i64 k ∧ k ≤ i ∧ kx = i - k ∧ Hid (Keep w wq a0 b0 a1 ln0 cap0 ln0 cp0 len1 cap1 id1 pr1))
      case atStart => exact ⟨0, rfl, Nat.zero_le _, rfl, HB5⟩
      case round =>
        obtain ⟨k, rfl, hk, rfl, HB⟩ := hrel
        have c0 := HB.out.c0
        have c1 := HB.out.c1
        have d0 := HB.out.d0
        have zz := HB.out.size
        clear HB5
        obtain ⟨b, o, rfl, hb, _, hx⟩ := (HI.out.below (Nat.le_refl _) HB.out.bel).one (v := Value.int .u64) (fun _ => rfl) (i := i) hlt
        by_cases hk2 : k < i
        · obtain ⟨b', o', e', _, _, hy⟩ := (HI.out.below (Nat.le_refl _) HB.out.bel).one (v := Value.int .u64) (fun _ => rfl) (i := k) (by omega)
          simp at e'
          obtain ⟨rfl, rfl⟩ := e'
          have hk3 : k < ln0 := by omega
          by_cases e : ids0.getD i 0 = ids0.getD k 0
          · rw [← e] at hy
            clear I e
            generalize ids0.getD i 0 = x at hx hy
            have ee : (x == x) = true := by simp
            go_wp2_with (first
              | (go_quiet (fail))
              | (go_at_call 7; refine (awake9_any _).mono ?_; rintro e w' ⟨rfl, hb'⟩))
            go_ret
            exact ⟨rfl, (below_drew HB.out.bel _).trans (hb'.mono (below_drew HB.out.bel _).size)⟩
          · have I2 : Hid _ := I.out
            clear I
            generalize ids0.getD i 0 = x at hx e
            generalize ids0.getD k 0 = y at hy e
            have ee : (x == y) = false := by simpa using e
            go_wp2_with (go_quiet (fail))
            go_roundg (i - (k + 1))
            case measure => omega
            case rel => exact ⟨k + 1, by go_num, by omega, rfl, HB.out.below ⟨rfl, rfl, rfl, Nat.le_refl _, fun _ _ => rfl⟩⟩
        · by_cases e : ids0.getD i 0 = id1
          · rw [e] at hx
            have ee : (id1 == id1) = true := by simp
            clear e
            go_wp2_with (first
              | (go_quiet (fail))
              | (go_at_call 7; refine (awake9_any _).mono ?_; rintro e w' ⟨rfl, hb'⟩))
            go_ret
            exact ⟨rfl, (below_drew HB.out.bel _).trans (hb'.mono (below_drew HB.out.bel _).size)⟩
          · have I' : Hid (∀ j, j < i + 1 → ids0.getD j 0 ≠ id1) := fun j hj => by
              by_cases q : j = i
              · rw [q]; exact e
              · exact I.out j (by omega)
            clear I
            generalize ids0.getD i 0 = x at hx e
            have ee : (x == id1) = false := by simpa using e
            go_wp2_with (go_quiet (fail))
            go_roundg (ln0 - (i + 1))
            case measure => omega
            case rel => exact ⟨i + 1, by go_num, by omega, rfl, HB.out.below ⟨rfl, rfl, rfl, Nat.le_refl _, fun _ _ => rfl⟩, I'⟩
    · obtain rfl : i = ln0 := by omega
      have HNE : Hid (∀ n, livesB lv0 n = true → idI ids0 n ≠ id1) := fun n hn => by
        have h := lives_in hn
        rw [HV.out.1] at h
        rw [id_at h.1]
        exact I.out _ (by omega)
      have HID : Hid ((∀ n, Go.Proofs.Ythniahbbnknkoaa.u64 (idI ids0 n)) ∧ Go.Proofs.Ythniahbbnknkoaa.u64 id1 ∧ i64 pr1) := ⟨fun n => idI_rng HI.out n, HP.out.hid, HP.out.hpred⟩
      have d0 := HB.out.d0
      have d1 := HB.out.d1
      have d2 := HB.out.d2
      have zz := HB.out.size
      clear I
      go_wp2
      obtain ⟨w5, hw5⟩ : ∃ w5, w5 = wr := ⟨_, rfl⟩
      have HB5 : Hid (Keep w w5 a0 b0 a1 i cap0 i cp0 len1 cap1 id1 pr1) := by rw [hw5]; exact HB.out
      rw [← hw5]
      clear hw5 HB d0 d1 d2 zz
      go_loopg [75, 10] len2 (fun kx s sb wq => ∃ (k : Nat) (b : Int), s = .int .i64 k ∧ sb = .int .i64 b ∧ k ≤ len2 ∧ kx = len2 - k ∧ Hid (Keep w wq a0 b0 a1 i cap0 i cp0 len1 cap1 id1 b) ∧ Hid (i64 b ∧ (b = pr1 ∨ livesB lv0 b = true)))
      case atStart => exact ⟨0, pr1, rfl, rfl, Nat.zero_le _, rfl, HB5, (⟨HID.out.2.2, .inl rfl⟩ : i64 pr1 ∧ (pr1 = pr1 ∨ livesB lv0 pr1 = true))⟩
      case round =>
        obtain ⟨k, b, rfl, rfl, hk, rfl, HB, HBB⟩ := hrel
        clear HB5
        have c0 := HB.out.c0
        have c1 := HB.out.c1
        have d0 := HB.out.d0
        have d1 := HB.out.d1
        have d2 := HB.out.d2
        have fr := HB.out.fr
        have zz := HB.out.size
        by_cases hk2 : k < len2
        · obtain ⟨bb, oo, rfl, hbb, hx, hc⟩ := (HL.out.below (Nat.le_refl _) HB.out.bel).one (v := Value.int .i64) (fun _ => rfl) (i := k) hk2
          generalize t2.getD k 0 = x at hx hc
          have HX : Hid (i64 x) := hx
          clear hx
          cases hq : livesB lv0 x
          · have HQ : Hid _ := hq
            clear hq
            go_wp2_with (go_at_call 8; refine (lives_w _ _ _ _ _ _ _ (HV.out.below (Nat.le_refl _) HB.out.bel) HX.out).mono ?_; rintro e w' ⟨rfl, hb'⟩; rw [HQ.out])
            go_roundg (len2 - (k + 1))
            case measure => omega
            case rel => exact ⟨k + 1, b, by go_num, rfl, by omega, rfl, HB.out.below hb', HBB⟩
          have HQ : Hid _ := hq
          have HRB : Hid (rectI lv0 ids0 id1 b x = bestI lv0 ids0 id1 b x) := best_rect HID.out.2.1 HID.out.1 HNE.out hq
          have HBO : Hid (bestI lv0 ids0 id1 b x = pr1 ∨ livesB lv0 (bestI lv0 ids0 id1 b x) = true) := best_of HBB.out.2 hq
          have HBI : Hid (i64 (bestI lv0 ids0 id1 b x)) := by unfold Hid bestI; split; exact HX.out; exact HBB.out.1
          clear hq
          go_wp2_with (go_at_call 8; refine (lives_w _ _ _ _ _ _ _ (HV.out.below (Nat.le_refl _) HB.out.bel) HX.out).mono ?_; rintro e w6 ⟨rfl, hb'⟩; rw [HQ.out]; have K5 : Hid (Keep w w6 a0 b0 a1 i cap0 i cp0 len1 cap1 id1 b) := HB.out.below hb'; clear hb' c0 c1 d0 d1 d2 fr zz; have c0 := K5.out.c0; have c1 := K5.out.c1; have d0 := K5.out.d0; have d1 := K5.out.d1; have d2 := K5.out.d2; have fr := K5.out.fr; have zz := K5.out.size)
          refine (rectify_any id1 b x _ _ _ _ _ _ _ _ _ lv0 ids0 _ (HV.out.below (Nat.le_refl _) K5.out.bel) (HI.out.below (Nat.le_refl _) K5.out.bel) HBB.out.1 HX.out).mono ?_
          rintro e w7 ⟨rfl, hb'⟩
          have K7 : Hid (Keep w w7 a0 b0 a1 i cap0 i cp0 len1 cap1 id1 b) := K5.out.below hb'
          clear hb' c0 c1 d0 d1 d2 fr zz
          have c0 := K7.out.c0
          have c1 := K7.out.c1
          have d0 := K7.out.d0
          have d1 := K7.out.d1
          have d2 := K7.out.d2
          have fr := K7.out.fr
          have zz := K7.out.size
          obtain ⟨r, hr⟩ : ∃ r, rectI lv0 ids0 id1 b x = r := ⟨_, rfl⟩
          rw [hr] at HRB ⊢
          have HR6 : Hid (i64 r ∧ (r = pr1 ∨ livesB lv0 r = true)) := by rw [HRB.out]; exact ⟨HBI.out, HBO.out⟩
          clear hr HBI HBO
          obtain ⟨W6, hW6⟩ : ∃ W6, W6 = ((w7.setCell ⟨w.heap.size + 1, 0, none⟩ (.int .u64 id1)).setCell ⟨w.heap.size + 1, 1, none⟩ (.int .i64 r)).setCell ⟨w.heap.size + 1, 2, none⟩ (.slice a1 len1 cap1) := ⟨_, rfl⟩
          have K6 : Hid (Keep w W6 a0 b0 a1 i cap0 i cp0 len1 cap1 id1 r) := by rw [hW6]; exact K7.out.set r
          go_upto_region 22 with fail
          rw [← hW6]
          clear hW6 c0 c1 d0 d1 d2 fr zz K5 K7
          obtain ⟨ι, F, _, hF0, hFb, hFc⟩ := grown_fam W6
          have F0 : ∀ i, (F i).cell? ⟨w.heap.size, 0, none⟩ = some (.slice a0 _ cap0) := fun i => cell_grown K6.out.c0 (hFb i)
          have F1 : ∀ i, (F i).cell? ⟨w.heap.size, 1, none⟩ = some (.slice b0 _ cp0) := fun i => cell_grown K6.out.c1 (hFb i)
          have F2 : ∀ i, (F i).cell? ⟨w.heap.size + 1, 0, none⟩ = some (.int .u64 id1) := fun i => cell_grown K6.out.d0 (hFb i)
          have F3 : ∀ i, (F i).cell? ⟨w.heap.size + 1, 1, none⟩ = some (.int .i64 r) := fun i => cell_grown K6.out.d1 (hFb i)
          have F4 : True := trivial
          have A6 : Hid (LvIn W6 a0 i lv0 ∧ IdIn W6 b0 i ids0 ∧ i64 b ∧ i64 x) := ⟨HV.out.below (Nat.le_refl _) K6.out.bel, HI.out.below (Nat.le_refl _) K6.out.bel, HBB.out.1, HX.out⟩
          have HF : Hid ((∃ i, { W6 with drawn := W6.drawn + 1 } = F i) ∧ (∀ i, Below W6.heap.size W6 (F i)) ∧ (∀ i W, Below W6.heap.size (F i) W → ∃ j, W = F j)) := ⟨hF0, hFb, hFc⟩
          clear hF0 hFb hFc
          by_cases hb1 : b = -1
          · subst hb1
            refine wp_region_fam F HF.out.1 (by kernel_rfl) (by kernel_rfl) ?_
            repeat (go_big_quiet_step (first
              | (fail)))
            refine wpQuiet_nil ?_
            rintro _ ⟨ix, rfl⟩
            have KF : Hid (Keep w (F ix) a0 b0 a1 i cap0 i cp0 len1 cap1 id1 r) := K6.out.below (HF.out.2.1 ix)
            have e1 : Hid (r = x) := HRB.out.trans (by rw [bestI, if_pos (by simp [*])])
            clear F0 F1 F2 F3 F4 HF
            go_wp2
            go_roundg (len2 - (k + 1))
            case measure => omega
            case rel => exact ⟨k + 1, x, by go_num, rfl, by omega, rfl, by rw [← e1.out]; exact KF.out, (⟨by rw [← e1.out]; exact HR6.out.1, by rw [← e1.out]; exact HR6.out.2⟩ : i64 x ∧ (x = pr1 ∨ livesB lv0 x = true))⟩
          have hb2 : (b == -1) = false := by simpa using hb1
          cases hqb : livesB lv0 b
          · have HQB : Hid _ := hqb
            refine wp_region_fam F HF.out.1 (by kernel_rfl) (by kernel_rfl) ?_
            repeat (go_big_quiet_step (first
              | (go_at_call 8; refine (lives_w _ _ _ _ _ _ _ (A6.out.1.below (Nat.le_refl _) (HF.out.2.1 _)) A6.out.2.2.1).mono ?_; rintro e' w' ⟨hs, hb⟩; exact ⟨by rw [hs, HQB.out], HF.out.2.2 _ _ (hb.mono (HF.out.2.1 _).size)⟩)))
            refine wpQuiet_nil ?_
            rintro _ ⟨ix, rfl⟩
            have KF : Hid (Keep w (F ix) a0 b0 a1 i cap0 i cp0 len1 cap1 id1 r) := K6.out.below (HF.out.2.1 ix)
            have e1 : Hid (r = x) := HRB.out.trans (by rw [bestI, if_pos (by simp [*])])
            clear F0 F1 F2 F3 F4 HF
            go_wp2
            go_roundg (len2 - (k + 1))
            case measure => omega
            case rel => exact ⟨k + 1, x, by go_num, rfl, by omega, rfl, by rw [← e1.out]; exact KF.out, (⟨by rw [← e1.out]; exact HR6.out.1, by rw [← e1.out]; exact HR6.out.2⟩ : i64 x ∧ (x = pr1 ∨ livesB lv0 x = true))⟩
          have HQB : Hid _ := hqb
          cases hd : decide (dist (idI ids0 x) id1 < dist (idI ids0 b) id1)
          · have hd' : ¬ dist (idI ids0 x) id1 < dist (idI ids0 b) id1 := by simpa using hd
            refine wp_region_fam F HF.out.1 (by kernel_rfl) (by kernel_rfl) ?_
            repeat (go_big_quiet_step (first
              | (go_at_call 8; refine (lives_w _ _ _ _ _ _ _ (A6.out.1.below (Nat.le_refl _) (HF.out.2.1 _)) A6.out.2.2.1).mono ?_; rintro e' w' ⟨hs, hb⟩; exact ⟨by rw [hs, HQB.out], HF.out.2.2 _ _ (hb.mono (HF.out.2.1 _).size)⟩)
              | (go_at_call 11; refine (id_w _ _ _ _ _ _ _ (A6.out.2.1.below (Nat.le_refl _) (HF.out.2.1 _)) (by first | exact A6.out.2.2.1 | exact A6.out.2.2.2)).mono ?_; rintro e' w' ⟨hs, hb⟩; exact ⟨hs, HF.out.2.2 _ _ (hb.mono (HF.out.2.1 _).size)⟩)
              | (go_at_call 10; refine (dist_any _ _ _).mono ?_; rintro e' w' ⟨hs, hb⟩; exact ⟨hs, _, hb⟩)))
            refine wpQuiet_nil ?_
            rintro _ ⟨ix, rfl⟩
            have KF : Hid (Keep w (F ix) a0 b0 a1 i cap0 i cp0 len1 cap1 id1 r) := K6.out.below (HF.out.2.1 ix)
            have e1 : Hid (r = b) := HRB.out.trans (by rw [bestI, if_neg (by simp [*])])
            clear F0 F1 F2 F3 F4 HF
            go_wp2
            go_roundg (len2 - (k + 1))
            case measure => omega
            case rel => exact ⟨k + 1, b, by go_num, rfl, by omega, rfl, by rw [← e1.out]; exact KF.out, (⟨by rw [← e1.out]; exact HR6.out.1, by rw [← e1.out]; exact HR6.out.2⟩ : i64 b ∧ (b = pr1 ∨ livesB lv0 b = true))⟩
          have hd' : dist (idI ids0 x) id1 < dist (idI ids0 b) id1 := by simpa using hd
          refine wp_region_fam F HF.out.1 (by kernel_rfl) (by kernel_rfl) ?_
          repeat (go_big_quiet_step (first
            | (go_at_call 8; refine (lives_w _ _ _ _ _ _ _ (A6.out.1.below (Nat.le_refl _) (HF.out.2.1 _)) A6.out.2.2.1).mono ?_; rintro e' w' ⟨hs, hb⟩; exact ⟨by rw [hs, HQB.out], HF.out.2.2 _ _ (hb.mono (HF.out.2.1 _).size)⟩)
            | (go_at_call 11; refine (id_w _ _ _ _ _ _ _ (A6.out.2.1.below (Nat.le_refl _) (HF.out.2.1 _)) (by first | exact A6.out.2.2.1 | exact A6.out.2.2.2)).mono ?_; rintro e' w' ⟨hs, hb⟩; exact ⟨hs, HF.out.2.2 _ _ (hb.mono (HF.out.2.1 _).size)⟩)
            | (go_at_call 10; refine (dist_any _ _ _).mono ?_; rintro e' w' ⟨hs, hb⟩; exact ⟨hs, _, hb⟩)))
          refine wpQuiet_nil ?_
          rintro _ ⟨ix, rfl⟩
          have KF : Hid (Keep w (F ix) a0 b0 a1 i cap0 i cp0 len1 cap1 id1 r) := K6.out.below (HF.out.2.1 ix)
          have e1 : Hid (r = x) := HRB.out.trans (by rw [bestI, if_pos (by simp [*])])
          clear F0 F1 F2 F3 F4 HF
          go_wp2
          go_roundg (len2 - (k + 1))
          case measure => omega
          case rel => exact ⟨k + 1, x, by go_num, rfl, by omega, rfl, by rw [← e1.out]; exact KF.out, (⟨by rw [← e1.out]; exact HR6.out.1, by rw [← e1.out]; exact HR6.out.2⟩ : i64 x ∧ (x = pr1 ∨ livesB lv0 x = true))⟩
        · by_cases e : b = pr1
          · subst e
            have ee : (b == b) = true := by simp
            go_wp2_with (go_at_call 7; refine (awake9_any _).mono ?_; rintro e w' ⟨rfl, hb'⟩; have d1 := cell_grown d1 hb'; have zz : w.heap.size + 1 < w'.heap.size := by { have := hb'.size; omega })
            go_ret
            exact ⟨rfl, HB.out.bel.trans (hb'.mono HB.out.bel.size)⟩
          · have hl : livesB lv0 b = true := by
              rcases HBB.out.2 with h | h
              · exact absurd h e
              · exact h
            have HQ : Hid _ := hl
            have ee : (b == b) = true := by simp
            have en : (b == pr1) = false := by simpa using e
            clear hl
            go_wp2_with (first
              | (go_at_call 7; refine (awake9_any _).mono ?_; rintro e w' ⟨rfl, hb'⟩; have K8 : Hid (Keep w w' a0 b0 a1 i cap0 i cp0 len1 cap1 id1 b) := HB.out.below hb'; clear c0 c1 d0 d1 d2 fr zz hb'; have c0 := K8.out.c0; have c1 := K8.out.c1; have d1 := K8.out.d1; have zz := K8.out.size)
              | (go_at_call 8; refine (lives_w _ _ _ _ _ _ _ (HV.out.below (Nat.le_refl _) K8.out.bel) HBB.out.1).mono ?_; rintro e w'' ⟨rfl, hb''⟩; rw [HQ.out]))
            go_ret
            exact ⟨rfl, K8.out.bel.trans (hb''.mono K8.out.bel.size)⟩

/-! ### The row's step -/
set_option maxRecDepth 100000 in
theorem lifted (os : Os) (started : os.Started) (H : Type) (enc : TypeId × Value → H) :
    ReturnsInHanded {} Try.checked os 3 .any (Rows.peerCloserSpec.pre6 enc Try.prog Try.f3 Rows.peerCloserRow.domain false) (Rows.peerCloserSpec.post enc Try.prog Try.f3 false true false false) := by
  refine returnsInHanded_of_change (C := Try.checked) own started (by kernel_rfl) Try.func3
    (ChangeSpec.witness6 (enc := enc) (C := Try.checked) false ⟨#[], #[.agg #[.slice none 0 0, .slice none 0 0], .agg #[.int .u64 0, .int .i64 0, .slice none 0 0], .slice none 0 0], []⟩ 8 (by kernel_rfl) (by kernel_rfl) (by kernel_rfl) (by kernel_rfl)) ?_
  intro W base args ds gs before hval0 hW hcnd _
  have hval : ∀ (j : Nat) t v, Try.f3.params[j]? = some t → args[j]? = some v → Value.okWide Try.prog W .any base t v := hval0
  have hW' := hW
  obtain ⟨p, q, hA0, hV, rfl, hfz, hnd⟩ := hW
  have hA : DataW.TrodAll enc Try.prog W 0 (fun _ => true) true Try.f3.params.toList args.toList ds p := hA0
  rw [Try.params3] at hA hval
  obtain ⟨v0, vs0, d0, ds0, p0, q0, hargs, rfl, rfl, h0, r0⟩ := trodAll_cons hA
  obtain ⟨v1, vs1, d1, ds1, p1, q1, rfl, rfl, rfl, h1, r1⟩ := trodAll_cons r0
  obtain ⟨v2, vs2, d2, ds2, p2, q2, rfl, rfl, rfl, h2, r2⟩ := trodAll_cons r1
  obtain ⟨rfl, rfl, rfl⟩ := trodAll_nil r2
  obtain rfl : args = #[v0, v1, v2] := by cases args; simp_all
  obtain ⟨rfl, rfl⟩ := trodVars_none hV
  obtain ⟨cs0, rfl, hcs0⟩ := okWide_struct Try.underlying25 (hval 0 25 v0 rfl rfl)
  have k0 := h0
  have lt0 : ∀ x ∈ p0, x.block < W.heap.size := by obtain ⟨m, hm⟩ := k0; exact DataW.trod_lt m _ _ _ hm
  obtain ⟨fuel0, hf0⟩ := h0
  obtain ⟨a0, len0, cap0, lv0, b0, ln0, cp0, ids0, rfl, w0, z0, y0⟩ := wd_of hcs0 hf0
  obtain ⟨cs1, rfl, hcs1⟩ := okWide_struct Try.underlying30 (hval 1 30 v1 rfl rfl)
  have k1 := h1
  have lt1 : ∀ x ∈ p1, x.block < W.heap.size := by obtain ⟨m, hm⟩ := k1; exact DataW.trod_lt m _ _ _ hm
  obtain ⟨fuel1, hf1⟩ := h1
  obtain ⟨id1, pr1, a1, len1, cap1, l1, rfl, w1⟩ := pe_of hcs1 hf1
  obtain ⟨a2, len2, cap2, rfl⟩ := okWide_slice Try.underlying28 (hval 2 28 v2 rfl rfl)
  have k2 := h2
  have lt2 : ∀ x ∈ p2, x.block < W.heap.size := by obtain ⟨m, hm⟩ := k2; exact DataW.trod_lt m _ _ _ hm
  obtain ⟨t2, w2⟩ : ∃ ts, InRow 1 encI i64 0 W a2 len2 ts := by
    obtain ⟨fuel, hf⟩ := h2
    exact inrow_of 1 encI i64 0 28 3 Try.underlying28 cellsI1 (by omega) lenI (fun n cs x => int_of n cs x) hf
  clear hA0 hval0
  refine (walk a0 len0 cap0 lv0 b0 ln0 cp0 ids0 id1 pr1 a1 len1 cap1 l1 a2 len2 cap2 t2 W w0 z0 y0 w1 w2).mono fun e W' ⟨he, bel⟩ => ?_
  subst he
  exact ⟨_, rfl, _, _, _, [], _, [], hW', trodAll_mk1 (shut_bool Try.underlying4 _), (trodAll_cons_mk (Below.trod laidOut (by kernel_rfl) (of_decide_eq_true (by kernel_rfl)) k0 bel lt0) (trodAll_cons_mk (Below.trod laidOut (by kernel_rfl) (of_decide_eq_true (by kernel_rfl)) k1 bel lt1) (trodAll_cons_mk (Below.trod laidOut (by kernel_rfl) (of_decide_eq_true (by kernel_rfl)) k2 bel lt2) trodAll_mk0))), rfl, bel.frame _, fun h => by cases h⟩

theorem over : Rows.peerCloserRow.holds Try.pinned (OpenSpec.ofChange Rows.peerCloserSpec) :=
  OpenClaim.holds_of_wide 3 Try.f3 rfl rfl rfl rfl rfl rfl rfl ⟨rfl, rfl, rfl, rfl, rfl⟩ rfl rfl rfl rfl rfl (by kernel_rfl) Try.func3 (by kernel_rfl)
    (of_decide_eq_true (by kernel_rfl)) (by unfold Func.isWrapper; first | (rw [if_pos (by decide +kernel)]; kernel_rfl) | (rw [if_neg (by decide +kernel)]; exact ⟨rfl, rfl⟩))
    (fun os started H enc _ => lifted os started H enc)

end Go.Proofs.Ythniahbbnknkoaa.peerCloser

namespace Go.Proofs.Ythniahbbnknkoaa
/-- For every world of addresses, each at a place of its own, every peer and every list of addresses: however many say that they are ahead, the one ahead is at last one of them or who it was, and none of those that live is nearer. -/
theorem peerCloser_holds : Rows.PeerCloserSaid := peerCloser.over
#print axioms peerCloser_holds
end Go.Proofs.Ythniahbbnknkoaa
