/- For every list of places, every list of calls and every address: base members never go, who went never comes again, and a refused call changes nothing of who lives.
  The frame is the guide's own shell (proof-skeleton.mjs) at this function; the walk and all ahead of it are mine. -/
import Derived.Test.YtgpamiggdeopbaaRows
import Derived.Test.YtgpamiggdeopbaaChAct
import Derived.Test.YtgpamiggdeopbaaChOwn
import Derived.Test.YtgpamiggdeopbaaIsCode
import Derived.Deep.CutBlock
import Derived.Deep.DeepCutAuto
import Derived.Deep.LoopGhost
import Derived.WalkKit
import Derived.WalkLawsBesides
import Derived.ProofKit
import Derived.OpenShut
import Derived.ShutString
import Derived.ChangeOld
import Derived.Below
namespace Go.Proofs.Ytgpamiggdeopbaa.chordStays
open Go.ChangeShapes Go.WideShapes Go.ChangeAt Go.RowKit
open Go.ChangeMaps (open_string shut_string)
set_option linter.unusedVariables false

theorem own : ownKnob Try.prog.godebug = none := by kernel_rfl
theorem laidOut : laidOutB Try.prog = true := by kernel_rfl


def Went (R : Rg) (x : Int) : Prop := R.lives x = false ∧ (R.pl x).isSome = true ∧ 4 ≤ x ∧ x < 32
/-- The ring, the list of those that went. -/
def St (w wr : World) (B r gp gk : Nat) (gv : Value) (G : List Int) (R : Rg) : Prop := Rw w wr B r gp gk gv G R ∧ Sane R ∧ ∀ x ∈ G, Went R x
theorem inv_sane {R : Rg} (h : Inv R) : Sane R := ⟨fun n hn => .inr (h.rng n hn), fun n _ hn => h.pl n hn, h.base⟩
theorem went_join {R : Rg} (h : Sane R) {x : Int} (hx : Went R x) (n id via : Int) : Went (R.join n id via) x := by
  have := (h.join n id via).2.2 x hx.2.1
  exact ⟨this.2.trans hx.1, this.1, hx.2.2⟩
theorem went_fail {R : Rg} (h : Sane R) {x : Int} (hx : Went R x) (n : Int) : Went (R.fail n) x := by
  have hf := h.fail n
  exact ⟨hf.2.2.2.1 x hx.1, by rw [hf.2.2.1]; exact hx.2.1, hx.2.2⟩
theorem went_alike {R R' : Rg} (h : Alike R R') {x : Int} (hx : Went R x) : Went R' x :=
  ⟨(h.1 x (by have := hx.2.2.1; omega)).trans hx.1, by rw [h.2]; exact hx.2.1, hx.2.2⟩
theorem St.below {w wr w' : World} {B r gp gk : Nat} {gv : Value} {G : List Int} {R : Rg} (h : St w wr B r gp gk gv G R) (hb : Below wr.heap.size wr w') : St w w' B r gp gk gv G R := ⟨h.1.below hb, h.2⟩
theorem St.join {w wr w' : World} {B r gp gk : Nat} {gv : Value} {G : List Int} {R : Rg} {n id via : Int} (h : St w wr B r gp gk gv G R) (hid : u64 id) (hr : RingAt w' r gp gk (R.join n id via)) (k : Kp wr w' gp gk) : St w w' B r gp gk gv G (R.join n id via) :=
  ⟨h.1.step hr (h.1.rn.inv.join n id via hid) k (cl_join R n id via), (h.2.1.join n id via).1, fun x hx => went_join h.2.1 (h.2.2 x hx) n id via⟩
theorem St.fail {w wr w' : World} {B r gp gk : Nat} {gv : Value} {G : List Int} {R : Rg} {n : Int} (h : St w wr B r gp gk gv G R) (hr : RingAt w' r gp gk (R.fail n)) (k : Kp wr w' gp gk) : St w w' B r gp gk gv G (R.fail n) :=
  ⟨h.1.step hr (h.1.rn.inv.fail n) k (cl_fail R n), (h.2.1.fail n).1, fun x hx => went_fail h.2.1 (h.2.2 x hx) n⟩
theorem lt_block {w : World} {g : Nat} {o : Obj} (h : w.heap[g]? = some o) : g < w.heap.size := by
  rcases Nat.lt_or_ge g w.heap.size with q | q
  · exact q
  · rw [Array.getElem?_eq_none q] at h; cases h
theorem went_join7 {R : Rg} {x id via : Int} (h : Went R x) : R.joinC x id via = 7 := by
  unfold Rg.joinC
  rw [if_neg (by have := h.2.2; omega), h.2.1]; rfl
/-! ### STEP 1: the walk -/
set_option maxRecDepth 100000 in
set_option maxHeartbeats 2000000 in
theorem walk (a0 : Option Addr) (len0 cap0 : Nat) (t0 : List Int) (a1 : Option Addr) (len1 cap1 : Nat) (t1 : List Ac10) (a2 : Int) (w : World) (w0 : InRow 1 encU Go.Proofs.Ytgpamiggdeopbaa.u64 0 w a0 len0 t0) (w1 : InRow 4 Ac10.cells Ac10.ok ac100 w a1 len1 t1) (w2 : (Lit.int .i64 a2).wf = true) :
    Calls Try.prog 3 #[.slice a0 len0 cap0, .slice a1 len1 cap1, .int .i64 a2] w fun e w' => e = .returned (.bool true) ∧ Below w.heap.size w w' := by
  have HI : Hid (IdIn w a0 len0 t0) := w0
  have HT : Hid (AcIn w a1 len1 t1) := w1
  have HN2 : Hid (i64 a2) := bounds_i64 w2
  have hm1 := w1.2.1
  clear w0 w1 w2
  obtain ⟨i0, hi, hz0, hz1, hz2⟩ := info_of Try.infoInt
  go_enter Try.func3, Try.ntmps3
  go_wp2_with fail
  refine (new_any a0 len0 cap0 t0 _ HI.out).mono ?_
  rintro e w2 ⟨h2, b2⟩
  rcases h2 with ⟨c, hc, rfl⟩ | ⟨r, gp, gk, R0, rfl, hr, hrr⟩
  · have B2 : Hid (Below w.heap.size w w2) := b2
    clear b2 hc
    go_wp2_with (go_at_call 8; refine (awake10_any _).mono ?_; rintro e w' ⟨rfl, hb⟩)
    go_ret
    exact ⟨rfl, B2.out.trans (hb.mono B2.out.size)⟩
  obtain ⟨B, hB⟩ : ∃ B, B = w2.heap.size := ⟨_, rfl⟩
  have H2 : Hid (∃ G R, St w (w2.alloc (.cells #[] 3)) B r gp gk (.slice (some ⟨w2.heap.size, 0, none⟩) 0 0) G R ∧ G.length ≤ 0) := by
    rw [hB]
    exact ⟨[], _, ⟨Rw.start hr, inv_sane (hr.inv.withCl _), fun x hx => by cases hx⟩, Nat.le_refl _⟩
  clear hr hrr b2 hB
  go_wp2
  go_loopg [10, 9] len1 (fun kx s gv wr => ∃ k : Nat, s = .int .i64 k ∧ k ≤ len1 ∧ k ≤ 60 ∧ kx = len1 - k ∧ Hid (∃ G R, St w wr B r gp gk gv G R ∧ G.length ≤ k))
  case atStart => exact ⟨0, rfl, Nat.zero_le _, by omega, rfl, H2⟩
  case round =>
    obtain ⟨k, rfl, hk, hk60, rfl, HB⟩ := hrel
    clear H2
    obtain ⟨G, R, hS, hGk⟩ := HB.out
    have HS : Hid (St w wr B r gp gk u9 G R) := hS
    clear hS HB
    by_cases hlt : k < len1 ∧ k < 60
    · obtain ⟨hlt, h60⟩ := hlt
      obtain ⟨b, o, rfl, hbb, hok, x0, x1, x2, x3⟩ := AcIn.at (HT.out.below (Nat.le_refl _) HS.out.1.rn.bel) hlt
      generalize t1.getD k ac100 = t at hok x0 x1 x2 x3
      obtain ⟨kd, n, via, id⟩ := t
      have HO : Hid (Ac10.ok ⟨kd, n, via, id⟩) := hok
      clear hok
      simp only at x0 x1 x2 x3
      obtain ⟨W3, hW3⟩ : ∃ W3, W3 = wr.alloc (.cells #[.int .i64 kd, .int .i64 n, .int .i64 via, .int .u64 id] 34) := ⟨_, rfl⟩
      have HA : Hid (St w W3 B r gp gk u9 G R) := by rw [hW3]; exact HS.out.below (below_one _ _)
      have HK : Hid (W3.heap[wr.heap.size]? = some (.cells #[.int .i64 kd, .int .i64 n, .int .i64 via, .int .u64 id] 34 (0, 0))) := by rw [hW3]; exact heap_alloc_new wr _
      go_wp2_with fail
      rw [← hW3]
      clear hW3 x0 x1 x2 x3
      refine (live_r r gp gk R _ HA.out.1.rn.ring).mono ?_
      rintro e w4 ⟨la, lc, rfl, _, _, b4⟩
      have H4 : Hid (St w w4 B r gp gk u9 G R) := HA.out.below b4
      have k4 : w4.heap[wr.heap.size]? = some (.cells #[.int .i64 kd, .int .i64 n, .int .i64 via, .int .u64 id] 34 (0, 0)) := (b4.block _ (lt_block HK.out)).trans HK.out
      have y0 : w4.cell? ⟨wr.heap.size, 0, none⟩ = some (.int .i64 kd) := by simp [World.cell?, k4]
      have y1 : w4.cell? ⟨wr.heap.size, 1, none⟩ = some (.int .i64 n) := by simp [World.cell?, k4]
      have y2 : w4.cell? ⟨wr.heap.size, 2, none⟩ = some (.int .i64 via) := by simp [World.cell?, k4]
      have y3 : w4.cell? ⟨wr.heap.size, 3, none⟩ = some (.int .u64 id) := by simp [World.cell?, k4]
      have zz := cell_block y0
      have hll : R.live.length ≤ 32 := liveTo_len R 32
      clear b4 HA HS k4
      go_upto_block 2 with fail
      go_cut [9, 12] (fun gv lv wx => ∃ G2 R2, lv = .int .i64 (R2.live.length : Nat) ∧ Hid (St w wx B r gp gk gv G2 R2 ∧ G2.length ≤ k + 1))
      case first =>
        by_cases k1 : kd = 1
        · subst k1
          have hj := H4.out.2.1.join n id via
          by_cases qc : R.joinC n id via = 0
          · have EV : Hid (errV (R.joinC n id via) = .nilIface) := errV_nil qc
            have LL : Hid ((R.join n id via).live.length = R.live.length + 1) := by have := hj.2.1; rw [if_pos qc] at this; exact this
            clear hj qc
            go_wp2_with (go_at_call 10; refine (join_r r gp gk R n id via _ H4.out.1.rn.ring HO.out.2.2.2 HO.out.2.2.1).mono ?_; rintro e w5 ⟨rfl, h5, k5⟩; rw [EV.out])
            go_meet
            exact ⟨G, R.join n id via, by rw [LL.out]; go_num, (⟨H4.out.join HO.out.2.2.2 h5 k5, by omega⟩ : St w w5 B r gp gk u9 G (R.join n id via) ∧ G.length ≤ k + 1)⟩
          · have EV : Hid (errV (R.joinC n id via) = .iface 40 (.int .i64 (R.joinC n id via))) := errV_code qc
            have LL : Hid ((R.join n id via).live.length = R.live.length) := by have := hj.2.1; rw [if_neg qc] at this; exact this
            clear hj qc
            go_wp2_with (go_at_call 10; refine (join_r r gp gk R n id via _ H4.out.1.rn.ring HO.out.2.2.2 HO.out.2.2.1).mono ?_; rintro e w5 ⟨rfl, h5, k5⟩; rw [EV.out])
            go_meet
            exact ⟨G, R.join n id via, by rw [LL.out], (⟨H4.out.join HO.out.2.2.2 h5 k5, by omega⟩ : St w w5 B r gp gk u9 G (R.join n id via) ∧ G.length ≤ k + 1)⟩
        have k1' : (kd == 1) = false := by simpa using k1
        by_cases k2 : kd = 2
        · subst k2
          have hf := H4.out.2.1.fail n
          by_cases qc : R.failC n = 0
          · have EV : Hid (errV (R.failC n) = .nilIface) := errV_nil qc
            have LL : Hid (((R.fail n).live.length : Int) = (R.live.length : Int) - 1) := by show ((R.fail n).live.length : Int) = _; have := hf.2.1; rw [if_pos qc] at this; omega
            have WN : Hid (Went (R.fail n) n) := by have q := hf.2.2.2.2 qc; exact ⟨q.1, by rw [hf.2.2.1]; exact q.2.2.2, q.2.1, q.2.2.1⟩
            have PN : 0 < R.live.length := by have := hf.2.1; rw [if_pos qc] at this; omega
            clear hf qc
            go_wp2_with fail
            refine (fail_r r gp gk R n _ H4.out.1.rn.ring).mono ?_
            rintro e w5 ⟨rfl, h5, k5⟩
            rw [EV.out]
            have n1 : wr.heap.size ≠ gp ∧ wr.heap.size ≠ gk := by
              refine ⟨fun e => ?_, fun e => ?_⟩
              · obtain ⟨m, hm, _⟩ := H4.out.1.rn.ring.places; have := hm.no_cell 0; rw [← e, y0] at this; cases this
              · obtain ⟨m, hm, _⟩ := H4.out.1.rn.ring.known; have := hm.no_cell 0; rw [← e, y0] at this; cases this
            have z1 := k5.cell y1 n1.1 n1.2
            have zz5 := cell_block z1
            have H5 : Hid (St w w5 B r gp gk u9 G (R.fail n)) := H4.out.fail h5 k5
            clear h5 k5 y0 y1 y2 y3 zz n1
            have H6 : Hid (St w (w5.alloc (.cells #[.int .i64 n] 3)) B r gp gk u9 G (R.fail n)) := H5.out.below (below_one _ _)
            have HSr : Hid (Src Try.prog 1 30 (.slice (some ⟨w5.heap.size, 0, none⟩) 1 1) 1 [cellI n] (w5.alloc (.cells #[.int .i64 n] 3))) := Src.ofSlice _ Try.underlying30 _ _ _ _ rfl (World.news_of_block (cs := #[.int .i64 n]) (t := 3) (fr := (0, 0)) (heap_alloc_new w5 _)) (by simp [cellI, Value.oneCell'])
            have hw2 := H6.out.1.lB
            go_wp2_with (at_builtin; refine wpList_own_append _ rfl _ _ 30 30 rfl B 3 i0 _ 8 Try.underlying30 hi hz0 hz1 hz2 rfl _ _ _ rfl H6.out.1.row _ 1 [cellI n] rfl HSr.out ?c3 ?c4 ?c5 ?_)
            case c3 => unfold maxLen; omega
            case c4 => omega
            case c5 => exact hw2
            intro v' w6 ha
            have HA6 : Hid (St w w6 B r gp gk v' (G ++ [n]) ((R.fail n).withCl (fun b => v'.ownBlock = some b))) := ⟨H6.out.1.append ha, inv_sane (H6.out.1.rn.inv.withCl _), fun x hx => by
              rcases List.mem_append.1 hx with q | q
              · exact H6.out.2.2 x q
              · simp at q; rw [q]; exact WN.out⟩
            clear ha hw2
            go_wp2
            go_meet
            exact ⟨_, _, by rw [← LL.out]; rfl, (⟨HA6.out, by simp; omega⟩ : _ ∧ _)⟩
          · have EV : Hid (errV (R.failC n) = .iface 40 (.int .i64 (R.failC n))) := errV_code qc
            have LL : Hid ((R.fail n).live.length = R.live.length) := by have := hf.2.1; rw [if_neg qc] at this; exact this
            clear hf qc
            go_wp2_with (go_at_call 11; refine (fail_r r gp gk R n _ H4.out.1.rn.ring).mono ?_; rintro e w5 ⟨rfl, h5, k5⟩; rw [EV.out])
            go_meet
            exact ⟨G, R.fail n, by rw [LL.out], (⟨H4.out.fail h5 k5, by omega⟩ : St w w5 B r gp gk u9 G (R.fail n) ∧ G.length ≤ k + 1)⟩
        have k2' : (kd == 2) = false := by simpa using k2
        by_cases k3 : kd = 3
        · subst k3
          go_wp2_with (go_at_call 12; refine (stab_r r gp gk R n _ H4.out.1.rn.ring HO.out.2.1).mono ?_; rintro e w5 ⟨rfl, h5, k5⟩)
          go_meet
          exact ⟨G, R.stab n, by rw [(stab_alike R n).live], (⟨⟨H4.out.1.step h5 (H4.out.1.rn.inv.stab n) k5 (cl_stab R n), H4.out.2.1.stab n, fun x hx => went_alike (stab_alike R n) (H4.out.2.2 x hx)⟩, by omega⟩ : St w w5 B r gp gk u9 G (R.stab n) ∧ G.length ≤ k + 1)⟩
        have k3' : (kd == 3) = false := by simpa using k3
        by_cases k4 : kd = 4
        · subst k4
          go_wp2_with (go_at_call 13; refine (round_r r gp gk R _ H4.out.1.rn.ring).mono ?_; rintro e w5 ⟨rfl, h5, k5⟩)
          go_meet
          exact ⟨G, R.round, by rw [(round_alike R).live], (⟨⟨H4.out.1.step h5 H4.out.1.rn.inv.round k5 (cl_round R), H4.out.2.1.round, fun x hx => went_alike (round_alike R) (H4.out.2.2 x hx)⟩, by omega⟩ : St w w5 B r gp gk u9 G R.round ∧ G.length ≤ k + 1)⟩
        have k4' : (kd == 4) = false := by simpa using k4
        go_wp2
        go_meet
        exact ⟨G, R, rfl, (⟨H4.out, by omega⟩ : St w w4 B r gp gk u9 G R ∧ G.length ≤ k + 1)⟩
      case rest =>
        obtain ⟨G2, R2, rfl, HC⟩ := hcut
        clear H4 y0 y1 y2 y3 zz hll HO HK
        have hll : R2.live.length ≤ 32 := liveTo_len R2 32
        have enn : ((R2.live.length : Int) != (R2.live.length : Int)) = false := by simp
        go_wp2_with fail
        refine (live_r r gp gk R2 _ HC.out.1.1.rn.ring).mono ?_
        rintro e w5 ⟨la2, lc2, rfl, _, _, b5⟩
        have H5 : Hid (St w w5 B r gp gk _ G2 R2 ∧ G2.length ≤ k + 1) := ⟨HC.out.1.below b5, HC.out.2⟩
        have L0 : Hid (R2.lives 0 = true ∧ R2.lives 1 = true ∧ R2.lives 2 = true ∧ R2.lives 3 = true) := ⟨HC.out.1.2.1.base 0 (by omega) (by omega), HC.out.1.2.1.base 1 (by omega) (by omega), HC.out.1.2.1.base 2 (by omega) (by omega), HC.out.1.2.1.base 3 (by omega) (by omega)⟩
        clear b5 HC
        go_wp2_with fail
        refine (lives_r r gp gk R2 _ _ H5.out.1.1.rn.ring).mono ?_
        rintro e w6 ⟨rfl, b6⟩
        rw [L0.out.1]
        have H6 : Hid (St w w6 B r gp gk _ G2 R2 ∧ G2.length ≤ k + 1) := ⟨H5.out.1.below b6, H5.out.2⟩
        clear b6 H5
        go_wp2_with fail
        refine (lives_r r gp gk R2 _ _ H6.out.1.1.rn.ring).mono ?_
        rintro e w7 ⟨rfl, b7⟩
        rw [L0.out.2.1]
        have H7 : Hid (St w w7 B r gp gk _ G2 R2 ∧ G2.length ≤ k + 1) := ⟨H6.out.1.below b7, H6.out.2⟩
        clear b7 H6
        go_wp2_with fail
        refine (lives_r r gp gk R2 _ _ H7.out.1.1.rn.ring).mono ?_
        rintro e w8 ⟨rfl, b8⟩
        rw [L0.out.2.2.1]
        have H8 : Hid (St w w8 B r gp gk _ G2 R2 ∧ G2.length ≤ k + 1) := ⟨H7.out.1.below b8, H7.out.2⟩
        clear b8 H7
        go_wp2_with fail
        refine (lives_r r gp gk R2 _ _ H8.out.1.1.rn.ring).mono ?_
        rintro e w9 ⟨rfl, b9⟩
        rw [L0.out.2.2.2]
        have H9 : Hid (∃ G R, St w w9 B r gp gk _ G R ∧ G.length ≤ k + 1) := ⟨_, _, H8.out.1.below b9, H8.out.2⟩
        clear b9 H8
        go_wp2
        go_roundg (len1 - (k + 1))
        case measure => omega
        case rel => exact ⟨k + 1, by go_num, by omega, by omega, rfl, H9⟩
    · have hq2 : k < len1 → ¬ k < 60 := fun h1 h2 => hlt ⟨h1, h2⟩
      clear hlt
      obtain ⟨w4, hw4⟩ : ∃ w4, w4 = wr := ⟨_, rfl⟩
      rw [← hw4] at HS ⊢
      clear hw4
      have hG63 : G.length ≤ 60 := by omega
      obtain ⟨ga, gc, hgv⟩ : ∃ ga gc, u9 = .slice ga G.length gc := by
        rcases HS.out.1.row.2 with ⟨h0, h1⟩ | ⟨g, cap, cur, hv, _⟩
        · exact ⟨none, 0, by rw [h0, h1]⟩
        · exact ⟨_, _, hv⟩
      subst hgv
      have HGL : Hid (∀ x ∈ G, i64 x) := fun x hx => by have := (HS.out.2.2 x hx).2.2; unfold i64; omega
      by_cases q3 : k < len1
      all_goals
        first
          | (have q5 : ¬ k < 60 := hq2 q3
             clear hq2
             go_wp2)
          | (clear hq2
             go_wp2)
        go_loopg [119] G.length (fun kx s wr => ∃ j : Nat, s = .int .i64 j ∧ j ≤ G.length ∧ kx = G.length - j ∧ Hid (St w wr B r gp gk (.slice ga G.length gc) G R))
        case atStart => exact ⟨0, rfl, Nat.zero_le _, rfl, HS⟩
        case round =>
          obtain ⟨j, rfl, hj, rfl, HB⟩ := hrel
          by_cases hjl : j < G.length
          · obtain ⟨g, rfl, _, hg1, hc1⟩ := own_int HB.out.1.row hjl
            have hx : G.getD j 0 ∈ G := by
              have e : G.getD j 0 = G[j] := by simp [List.getD, hjl]
              rw [e]; exact List.getElem_mem _
            have HX : Hid (Went R (G.getD j 0)) := HB.out.2.2 _ hx
            clear hx
            generalize G.getD j 0 = x at hc1 HX
            have HJ : Hid (errV (R.joinC x 1 0) = .iface 40 (.int .i64 7)) := by show errV _ = _; rw [went_join7 HX.out]; rfl
            have HJR : Hid (R.join x 1 0 = R) := by show R.join x 1 0 = R; unfold Rg.join; rw [went_join7 HX.out]; rfl
            have HL : Hid (R.lives x = false) := HX.out.1
            go_wp2_with fail
            refine (lives_r r gp gk R _ _ HB.out.1.rn.ring).mono ?_
            rintro e w5 ⟨rfl, b5⟩
            rw [HL.out]
            have H5 : Hid (St w w5 B r gp gk (.slice (some ⟨g, 0, none⟩) G.length gc) G R) := HB.out.below b5
            clear b5
            go_wp2_with fail
            refine (join_r r gp gk R x 1 0 _ H5.out.1.rn.ring u64_one i64_zero).mono ?_
            rintro e w6 ⟨rfl, h6, k6⟩
            rw [HJ.out]
            rw [HJR.out] at h6
            have H6 : Hid (St w w6 B r gp gk (.slice (some ⟨g, 0, none⟩) G.length gc) G R) := ⟨H5.out.1.step h6 H5.out.1.rn.inv k6 rfl, H5.out.2⟩
            clear h6 k6
            go_wp2_with (go_at_call 15; refine (is_code _ _).mono ?_; rintro e w' ⟨rfl, rfl⟩)
            go_roundg (G.length - (j + 1))
            case measure => omega
            case rel => exact ⟨j + 1, by go_num, by omega, rfl, H6⟩
          · obtain ⟨w5, hw5⟩ : ∃ w5, w5 = wr := ⟨_, rfl⟩
            rw [← hw5] at HB ⊢
            clear hw5
            go_wp2_with fail
            refine (fail_r r gp gk R a2 _ HB.out.1.rn.ring).mono ?_
            rintro e w6 ⟨rfl, h6, k6⟩
            have H6 : Hid (Below w.heap.size w w6) := HB.out.1.rn.bel.trans (k6.below HB.out.1.rn.gp HB.out.1.rn.gk HB.out.1.rn.bel.size)
            clear h6 k6
            by_cases n0 : a2 < 0
            · obtain ⟨ev, hev⟩ : ∃ ev, errV (R.failC a2) = ev := ⟨_, rfl⟩
              rw [hev]
              clear hev
              go_wp2_with (go_at_call 8; refine (awake10_any _).mono ?_; rintro e w7 ⟨rfl, b7⟩)
              go_ret
              exact ⟨rfl, H6.out.trans (b7.mono H6.out.size)⟩
            · by_cases n3 : 3 < a2
              · obtain ⟨ev, hev⟩ : ∃ ev, errV (R.failC a2) = ev := ⟨_, rfl⟩
                rw [hev]
                clear hev
                go_wp2_with (go_at_call 8; refine (awake10_any _).mono ?_; rintro e w7 ⟨rfl, b7⟩)
                go_ret
                exact ⟨rfl, H6.out.trans (b7.mono H6.out.size)⟩
              · have EV : Hid (errV (R.failC a2) = .iface 40 (.int .i64 5)) := by
                  have hl := HB.out.2.1.base a2 (by omega) (by omega)
                  have : R.failC a2 = 5 := by unfold Rg.failC; rw [hl, if_neg (by simp), if_pos (.inl (by omega))]
                  show errV _ = _
                  rw [this]; rfl
                rw [EV.out]
                go_wp2_with (first
                  | (go_at_call 8; refine (awake10_any _).mono ?_; rintro e w7 ⟨rfl, b7⟩)
                  | (go_at_call 15; refine (is_code _ _).mono ?_; rintro e w' ⟨rfl, rfl⟩))
                go_ret
                exact ⟨rfl, H6.out.trans (b7.mono H6.out.size)⟩

/-! ### The row's step -/
set_option maxRecDepth 100000 in
theorem lifted (os : Os) (started : os.Started) (H : Type) (enc : TypeId × Value → H) :
    ReturnsInHanded {} Try.checked os 3 .any (Rows.chordStaysSpec.pre6 enc Try.prog Try.f3 Rows.chordStaysRow.domain false) (Rows.chordStaysSpec.post enc Try.prog Try.f3 false true false false) := by
  refine returnsInHanded_of_change (C := Try.checked) own started (by kernel_rfl) Try.func3
    (ChangeSpec.witness6 (enc := enc) (C := Try.checked) false ⟨#[], #[.slice none 0 0, .slice none 0 0, .int .i64 0], []⟩ 8 (by kernel_rfl) (by kernel_rfl) (by kernel_rfl) (by kernel_rfl)) ?_
  intro W base args ds gs before hval0 hW hcnd _
  have hval : ∀ (j : Nat) t v, Try.f3.params[j]? = some t → args[j]? = some v → Value.okWide Try.prog W .any base t v := hval0
  have hW' := hW
  obtain ⟨p, q, hA0, hV, rfl, hfz, hnd⟩ := hW
  have hA : DataW.TrodAll enc Try.prog W 0 (fun _ => true) true Try.f3.params.toList args.toList ds p := hA0
  rw [Try.params3] at hA hval
  obtain ⟨v0, vs0, d0, ds0, p0, q0, hargs, rfl, rfl, h0, r0⟩ := trodAll_cons hA
  obtain ⟨v1, vs1, d1, ds1, p1, q1, rfl, rfl, rfl, h1, r1⟩ := trodAll_cons r0
  obtain ⟨v2, vs2, d2, ds2, p2, q2, rfl, rfl, rfl, h2, r2⟩ := trodAll_cons r1
  obtain ⟨rfl, rfl, rfl⟩ := trodAll_nil r2
  obtain rfl : args = #[v0, v1, v2] := by cases args; simp_all
  obtain ⟨rfl, rfl⟩ := trodVars_none hV
  obtain ⟨a0, len0, cap0, rfl⟩ := okWide_slice Try.underlying22 (hval 0 22 v0 rfl rfl)
  have k0 := h0
  have lt0 : ∀ x ∈ p0, x.block < W.heap.size := by obtain ⟨m, hm⟩ := k0; exact DataW.trod_lt m _ _ _ hm
  obtain ⟨t0, w0⟩ : ∃ ts, InRow 1 encU Go.Proofs.Ytgpamiggdeopbaa.u64 0 W a0 len0 ts := by
    obtain ⟨fuel, hf⟩ := h0
    exact inrow_of 1 encU Go.Proofs.Ytgpamiggdeopbaa.u64 0 22 32 Try.underlying22 cellsU1 (by omega) lenU (fun n cs x => uid_of n cs x) hf
  obtain ⟨a1, len1, cap1, rfl⟩ := okWide_slice Try.underlying23 (hval 1 23 v1 rfl rfl)
  have k1 := h1
  have lt1 : ∀ x ∈ p1, x.block < W.heap.size := by obtain ⟨m, hm⟩ := k1; exact DataW.trod_lt m _ _ _ hm
  obtain ⟨t1, w1⟩ : ∃ ts, InRow 4 Ac10.cells Ac10.ok ac100 W a1 len1 ts := by
    obtain ⟨fuel, hf⟩ := h1
    exact inrow_of 4 Ac10.cells Ac10.ok ac100 23 34 Try.underlying23 cellsAc10 (by omega) lenAc10 (fun n cs x => ac10_of n cs x) hf
  obtain ⟨a2, rfl, rfl, rfl, w2⟩ := open_int Try.underlying3 (hval 2 3 v2 rfl rfl) h2
  clear hA0 hval0
  refine (walk a0 len0 cap0 t0 a1 len1 cap1 t1 a2 W w0 w1 w2).mono fun e W' ⟨he, bel⟩ => ?_
  subst he
  exact ⟨_, rfl, _, _, _, [], _, [], hW', trodAll_mk1 (shut_bool Try.underlying4 _), (trodAll_cons_mk (Below.trod laidOut (by kernel_rfl) (of_decide_eq_true (by kernel_rfl)) k0 bel lt0) (trodAll_cons_mk (Below.trod laidOut (by kernel_rfl) (of_decide_eq_true (by kernel_rfl)) k1 bel lt1) (trodAll_cons_mk (shut_int Try.underlying3 w2) trodAll_mk0))), rfl, bel.frame _, fun h => by cases h⟩

theorem over : Rows.chordStaysRow.holds Try.pinned (OpenSpec.ofChange Rows.chordStaysSpec) :=
  OpenClaim.holds_of_wide 3 Try.f3 rfl rfl rfl rfl rfl rfl rfl ⟨rfl, rfl, rfl, rfl, rfl⟩ rfl rfl rfl rfl rfl (by kernel_rfl) Try.func3 (by kernel_rfl)
    (of_decide_eq_true (by kernel_rfl)) (by unfold Func.isWrapper; first | (rw [if_pos (by decide +kernel)]; kernel_rfl) | (rw [if_neg (by decide +kernel)]; exact ⟨rfl, rfl⟩))
    (fun os started H enc _ => lifted os started H enc)

end Go.Proofs.Ytgpamiggdeopbaa.chordStays

namespace Go.Proofs.Ytgpamiggdeopbaa
/-- For every list of places, every list of calls and every address: base members never go, who went never comes again, and a refused call changes nothing of who lives. -/
theorem chordStays_holds : Rows.ChordStaysSaid := chordStays.over
#print axioms chordStays_holds
end Go.Proofs.Ytgpamiggdeopbaa
