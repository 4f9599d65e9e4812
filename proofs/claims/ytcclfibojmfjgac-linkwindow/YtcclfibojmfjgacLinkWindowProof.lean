/- Proved: for every two numbers, LinkWindow answers true (at most eight texts go at once, the first ones that wait, by rising numbers; of at most 64).
  The frame is the guide's own shell (proof-skeleton.mjs) at this function; the walk and all ahead of it are mine. -/
import Derived.Test.YtcclfibojmfjgacRows
import Derived.Test.YtcclfibojmfjgacLinkInv
import Derived.Test.YtcclfibojmfjgacLinkRef
import Derived.Deep.LoopGhost
import Derived.WalkKit
import Derived.WalkLawsBesides
import Derived.ProofKit
import Derived.OpenShut
import Derived.ShutString
namespace Go.Proofs.Ytcclfibojmfjgac.linkWindow
open Go.ChangeShapes Go.WideShapes Go.ChangeAt Go.RowKit
open Go.ChangeMaps (open_string shut_string)
set_option linter.unusedVariables false      -- a walk need not use every 'w<i>' (that an integer argument fits its kind)

theorem own : ownKnob Try.prog.godebug = none := by kernel_rfl


def bt (i : Nat) : ByteArray := ⟨#[UInt8.ofNat i]⟩
def XW (n : Nat) : List ByteArray := (List.range n).map bt
def wN (i : Nat) : Lk := ⟨XW i, 0, 0, false⟩
theorem XW_len (n : Nat) : (XW n).length = n := by simp [XW]
theorem XW_get (n i : Nat) (h : i < n) : tx (XW n) i = bt i := by simp [tx, XW, List.getD, h]
theorem wN_push (i : Nat) : ({ wN i with q := (wN i).q ++ [bt i] } : Lk) = wN (i + 1) := by simp [wN, XW, List.range_succ]
theorem inv_start (n : Nat) : Inv (wN n) lk0 (XW n) [] :=
  ⟨by simp [wN], Int.le_refl 0, Int.le_refl 0, by simp [lk0], rfl, Int.le_refl 0, Int.le_refl 0, Int.le_refl 0⟩
def FS (w wr : World) (x y : Lk) (n : Nat) : Prop := Two w wr x y ∧ Inv x y (XW n) [] ∧ x.owes = false
theorem XW_small (n : Nat) : ∀ t ∈ XW n, t.size ≤ 1970 := fun t ht => by
  obtain ⟨i, _, rfl⟩ := List.mem_map.1 ht
  show 1 ≤ 1970; omega
theorem fs_ok {n : Nat} (hn : n ≤ 64) {cm k c : Int} {s : ByteArray} (h : Tru (XW n) cm k c s) (hm : cm ≤ 1) : PkOk k c s := tru_ok h (by rw [XW_len]; omega) (by omega) (XW_small n)
theorem fs_ok2 {cm k c : Int} {s : ByteArray} (h : Tru [] cm k c s) (hm : cm ≤ 64) : PkOk k c s := tru_ok h (by simp) (by omega) (fun t ht => by cases ht)
theorem out_len_q {l : Lk} (h : l.q ≠ []) : l.out.length = min l.q.length 8 := by unfold Lk.out; rw [if_neg h]; simp [Lk.fst]
theorem inv_y {x y : Lk} {n : Nat} (h : Inv x y (XW n) []) : x.came = 0 ∧ y.q = [] ∧ y.acked = 0 := by
  have h1 := h.y0; have h2 := h.y1; have h3 := h.y2
  simp at h3
  exact ⟨by omega, by rw [h.yq]; simp, by omega⟩
theorem got_m1 (l : Lk) (c : Int) : (l.got (-1) c).owes = l.owes := by
  unfold Lk.got; rw [if_pos rfl]; unfold Lk.conf; split <;> rfl
theorem out_pos {l : Lk} (h : l.q = []) (ho : l.owes = true) : l.out.length = 1 := by unfold Lk.out; rw [if_pos h, if_pos ho]; rfl
theorem ba_eq (S : ByteArray) (L : List UInt8) (h : S.data.toList = L) : S = ⟨L.toArray⟩ := by
  apply ByteArray.ext; apply Array.ext'; simpa using h
/-! ### STEP 1: THE WALK: the Go text returns true. 'Grown w w'': the world has at most new blocks (Derived/RowKit3.lean). Part the cases AHEAD of 'go_enter' where a test parts the walk; take each callee by a contract of your own. -/
set_option maxRecDepth 100000 in
set_option maxHeartbeats 2000000 in
theorem walk (a0 : Int) (a1 : Int) (w0 : (Lit.int .i64 a0).wf = true) (w1 : (Lit.int .i64 a1).wf = true) (w : World) :
    Calls Try.prog 3 #[.int .i64 a0, .int .i64 a1] w fun e w' => e = .returned (.bool true) ∧ Below w.heap.size w w' := by
  clear w0 w1
  by_cases hc : (0 ≤ a0 ∧ a0 ≤ 64) ∧ 0 ≤ a1 ∧ a1 ≤ a0
  · obtain ⟨⟨ht0, ht1⟩, ht2, ht3⟩ := hc
    obtain ⟨n, rfl⟩ : ∃ n : Nat, a0 = n := ⟨a0.toNat, by omega⟩
    obtain ⟨m, rfl⟩ : ∃ m : Nat, a1 = m := ⟨a1.toNat, by omega⟩
    have hn : n ≤ 64 := by omega
    have hm : m ≤ n := by omega
    have q1 : decide ((n : Int) < 0) = false := by simp
    have q2 : decide ((64 : Int) < (n : Int)) = false := by simp; omega
    have q3 : decide ((m : Int) < 0) = false := by simp
    have q4 : decide (n < m) = false := by simp; omega
    go_enter Try.func3, Try.ntmps3
    go_wp2
    go_loopw [7] (fun y wr => ∃ i : Nat, y = .int .i64 i ∧ i ≤ n ∧ Hid (Two w wr (wN i) lk0)) (fun y _ => n - (intOf y).toNat)
    case atStart => exact ⟨0, rfl, Nat.zero_le _, (two_new w : Two w _ (wN 0) lk0)⟩
    case round =>
      obtain ⟨i, rfl, hi, H⟩ := hrel
      by_cases hlt : i < n
      · have hcv := conv_one (wr.alloc (.cells #[.int .u8 (i : Int)] 5)) wr.heap.size (i : Int) (UInt8.ofNat i) (by rw [ofNat_toNat i (by omega)]) (by simp)
        go_wp2_with fail
        refine (push_a (H.out.below ((Below.refl _ _).alloc (Nat.le_refl _) _)) (bt i) (by show 1 ≤ 1970; omega) (by simp [wN, XW_len]; omega)).mono ?_
        rintro e w2 ⟨rfl, h2, _⟩
        rw [wN_push] at h2
        have H2 : Hid (Two w w2 (wN (i + 1)) lk0) := h2
        clear h2 hcv
        go_wp2
        go_roundw
        case rel => exact ⟨i + 1, by go_num, by omega, H2⟩
        case measure => simp [intOf]; omega
      · obtain rfl : i = n := by omega
        have HF : Hid (FS w wr (wN i) lk0 i) := ⟨H.out, inv_start i, rfl⟩
        clear H
        go_wp2
        go_loopg [8] 64 (fun kx _ wr => ∃ (x y : Lk) (k : Nat), k ≤ m ∧ m - k ≤ kx ∧ Hid (FS w wr x y i ∧ x.acked = k ∧ y.came = k))
        case atStart => exact ⟨_, _, 0, Nat.zero_le _, by omega, (⟨HF.out, rfl, rfl⟩ : FS w wr (wN i) lk0 i ∧ _ ∧ _)⟩
        case round =>
          obtain ⟨x, y, k, hkn, hkx, H⟩ := hrel
          have k2 : wr.cell? ⟨w.heap.size + 1, 2, none⟩ = some (.int .i64 y.came) := H.out.1.1.b.k2
          rw [H.out.2.2] at k2
          have hxl := H.out.1.2.1.xlen
          rw [H.out.2.1, XW_len] at hxl
          by_cases hlt : k < m
          · have hltI : (k : Int) < (m : Int) := by omega
            go_wp2_with fail
            refine (packs_a H.out.1.1).mono ?_
            rintro e w4 ⟨a, c, P, rfl, hcc, hT, hP, h4, _⟩
            have hxq : x.q ≠ [] := fun e => by rw [e] at hxl; simp at hxl; omega
            have hPl : P.length = min x.q.length 8 := by rw [bys_len hP, out_len_q hxq]
            have hP0 : 0 < P.length := by have := List.length_pos_iff.2 hxq; omega
            have hP8 : P.length ≤ 8 := by omega
            obtain ⟨pl, hpl⟩ : ∃ pl, pl = P.length := ⟨_, rfl⟩
            rw [← hpl] at hcc ⊢
            have hpz : ((pl : Int) == 0) = false := by rw [beq_eq_false_iff_ne]; omega
            have hp8 : ¬ (8 : Int) < (pl : Int) := by omega
            have hp1 : (0 : Int) < (pl : Int) := by omega
            obtain ⟨b, o, ha, hb, hbase, hcells⟩ := hT.get 0 hP0
            subst ha
            have c0 := hcells 0 hP0
            simp only [Nat.add_zero] at c0
            have e0 := bys_get hP 0 hP0
            obtain ⟨n0, s0, hpk, htru, hn0, _⟩ := out_true H.out.1.2.1 0 (by rw [← bys_len hP]; exact hP0)
            rw [hpk] at e0
            obtain ⟨p0, hp0⟩ : ∃ q, q = tx P 0 := ⟨_, rfl⟩
            rw [← hp0] at c0 e0
            have hn0' : n0 = (k : Int) := by rw [hn0 hxq, H.out.2.1]; simp
            have hiy := inv_y H.out.1.2.1
            have HE : Hid (p0.data.toList = pkB n0 x.came s0 ∧ Tru (XW i) ({ x with owes := false } : Lk).came n0 x.came s0 ∧ n0 = (k : Int) ∧ x.came = 0 ∧ Two w w4 { x with owes := false } y ∧ Inv { x with owes := false } y (XW i) [] ∧ x.acked = k ∧ y.came = k ∧ (x.q.length : Int) = i - k) := ⟨e0, htru, hn0', hiy.1, h4, H.out.1.2.1.owes false, H.out.2.1, H.out.2.2, hxl⟩
            clear hp0 e0 hpk htru hn0 hn0' hiy hcells hT hP h4 hxq H hxl hPl hP0 hP8 hpl
            go_wp2_with fail
            refine (take_b HE.out.2.2.2.2.1 HE.out.1 (fs_ok hn HE.out.2.1 (by show x.came ≤ 1; rw [HE.out.2.2.2.1]; omega)) (by rw [HE.out.2.2.2.2.2.2.2.1]; omega)).mono ?_
            rintro e w5 ⟨rfl, h5, _⟩
            obtain ⟨y', hy'⟩ : ∃ y', y' = y.got n0 x.came := ⟨_, rfl⟩
            rw [← hy'] at h5
            have H5 : Hid (Two w w5 { x with owes := false } y' ∧ Inv { x with owes := false } y' (XW i) [] ∧ y'.came = (k + 1 : Nat) ∧ y'.owes = true ∧ y'.q = []) := by
              have hI : Inv { x with owes := false } y' (XW i) [] := by rw [hy']; exact HE.out.2.2.2.2.2.1.got HE.out.2.1
              refine ⟨h5, hI, ?_, ?_, (inv_y hI).2.1⟩
              · rw [hy', got_came, if_pos ⟨by rw [HE.out.2.2.1]; omega, by rw [HE.out.2.2.1, HE.out.2.2.2.2.2.2.2.1]⟩, HE.out.2.2.2.2.2.2.2.1]; simp
              · rw [hy']; exact got_owes (by rw [HE.out.2.2.1]; omega)
            clear h5 hy'
            go_wp2_with fail
            refine (packs_b H5.out.1).mono ?_
            rintro e w7 ⟨a7, c7, P7, rfl, hc7, hT7, hP7, h7, _⟩
            have hPl7 : P7.length = 1 := by rw [bys_len hP7]; exact out_pos H5.out.2.2.2.2 H5.out.2.2.2.1
            obtain ⟨b7, o7, ha7, hb7, hbase7, hcells7⟩ := hT7.get 0 (by omega)
            subst ha7
            have d0 := hcells7 0 (by omega)
            simp only [Nat.add_zero] at d0
            have e7 := bys_get hP7 0 (by omega)
            obtain ⟨n7, s7, hpk7, htru7, _, hn7⟩ := out_true H5.out.2.1.swap 0 (by rw [← bys_len hP7]; omega)
            rw [hpk7] at e7
            obtain ⟨p7, hp7⟩ : ∃ q, q = tx P7 0 := ⟨_, rfl⟩
            rw [← hp7] at d0 e7
            have hI7 : Inv { x with owes := false } { y' with owes := false } (XW i) [] := (H5.out.2.1.swap.owes false).swap
            have H7 : Hid (p7.data.toList = pkB n7 y'.came s7 ∧ Tru [] ({ y' with owes := false } : Lk).came n7 y'.came s7 ∧ n7 = -1 ∧ Two w w7 { x with owes := false } { y' with owes := false } ∧ Inv { x with owes := false } { y' with owes := false } (XW i) [] ∧ y'.came = (k + 1 : Nat)) := ⟨e7, htru7, hn7 H5.out.2.2.2.2, h7, hI7, H5.out.2.2.1⟩
            rw [hPl7]
            clear hp7 e7 hpk7 htru7 hn7 hcells7 hT7 hP7 h7 hI7 hPl7 H5 hc7
            go_wp2
            refine wp_loop_rounds 2 ?_
            rw [rounds_succ]
            go_wp2_with fail
            refine (take_a H7.out.2.2.2.1 H7.out.1 (fs_ok2 H7.out.2.1 (by show y'.came ≤ 64; rw [H7.out.2.2.2.2.2]; omega)) (by show x.came < _; rw [HE.out.2.2.2.1]; omega)).mono ?_
            rintro e w9 ⟨rfl, h9, _⟩
            have H9 : Hid (FS w w9 (({ x with owes := false } : Lk).got n7 y'.came) { y' with owes := false } i ∧ (({ x with owes := false } : Lk).got n7 y'.came).acked = (k + 1 : Nat)) := by
              refine ⟨⟨h9, (H7.out.2.2.2.2.1.swap.got H7.out.2.1).swap, by rw [H7.out.2.2.1, got_m1]⟩, ?_⟩
              have hcm := H7.out.2.2.2.2.2
              have hac := HE.out.2.2.2.2.2.2.1
              have hql := HE.out.2.2.2.2.2.2.2.2
              rw [got_acked (by show x.acked < _; rw [hac, hcm]; omega) (by show y'.came - x.acked ≤ (x.q.length : Int); rw [hql, hcm, hac]; omega), hcm]
            clear h9
            go_wp2
            rw [rounds_succ]
            go_wp2
            go_roundg (m - (k + 1))
            case measure => omega
            case rel => exact ⟨_, _, k + 1, by omega, Nat.le_refl _, (⟨H9.out.1, H9.out.2, H7.out.2.2.2.2.2⟩ : FS w w9 _ _ i ∧ _ ∧ _)⟩
          · obtain rfl : k = m := by omega
            go_wp2_with fail
            refine (packs_a H.out.1.1).mono ?_
            rintro e w4 ⟨a, c, P, rfl, hcc, hT, hP, h4, _⟩
            have hPl : P.length = min (i - k) 8 := by
              rw [bys_len hP]
              by_cases hxq : x.q = []
              · have : x.out = [] := by unfold Lk.out; rw [if_pos hxq, H.out.1.2.2]; rfl
                rw [this]; rw [hxq] at hxl; simp at hxl ⊢; omega
              · rw [out_len_q hxq]; omega
            obtain ⟨pl, hpl⟩ : ∃ pl, pl = P.length := ⟨_, rfl⟩
            rw [← hpl] at hcc ⊢
            have HE : Hid (bys P = x.out ∧ Inv x y (XW i) [] ∧ x.acked = k ∧ (x.q.length : Int) = i - k ∧ pl = P.length) := ⟨hP, H.out.1.2.1, H.out.2.1, hxl, hpl⟩
            have H4 : Hid (Two w w4 { x with owes := false } y ∧ TxRow (w.heap.size + 2) w4 a P) := ⟨h4, hT⟩
            have hor : (8 < (i : Int) - (k : Int) ∧ pl = 8) ∨ ((i : Int) - (k : Int) ≤ 8 ∧ (i : Int) - (k : Int) = (pl : Int)) := by omega
            clear hP hT h4 H hxl hPl hpl
            rcases hor with ⟨hor, rfl⟩ | ⟨hor, hor2⟩
            all_goals
              go_wp2
              go_loopw [77] (fun q wr => ∃ j : Nat, q = .int .i64 j ∧ j ≤ P.length ∧ Hid (Two w wr { x with owes := false } y ∧ TxRow (w.heap.size + 2) wr a P)) (fun q _ => P.length - (intOf q).toNat)
              case atStart => exact ⟨0, rfl, Nat.zero_le _, H4⟩
              case round =>
                obtain ⟨j, rfl, hj, H5⟩ := hrel
                have HPE : Hid _ := HE.out.2.2.2.2
                by_cases hlt2 : j < P.length
                · have hj0 : (0 : Int) ≤ (j : Int) := Int.natCast_nonneg _
                  obtain ⟨b', o', e', hb', hbase', hcells'⟩ := H5.out.2.get j hlt2
                  subst e'
                  have c0 := hcells' j hlt2
                  have e0 := bys_get HE.out.1 j hlt2
                  have hjo : j < x.out.length := by rw [← bys_len HE.out.1]; exact hlt2
                  obtain ⟨n0, s0, hpk, htru, hn0, hn1⟩ := out_true HE.out.2.1 j hjo
                  have hxq : x.q ≠ [] := fun e => by
                    have : (0 : Int) = i - k := by have := HE.out.2.2.2.1; rw [e] at this; simpa using this
                    have hpe := HPE.out
                    omega
                  have hn0' : n0 = ((k + j : Nat) : Int) := by rw [hn0 hxq, HE.out.2.2.1]; simp
                  have hs0 : s0 = bt (k + j) ∧ k + j < i := by
                    rcases htru.n with ⟨h1, _⟩ | ⟨h1, h2, h3⟩
                    · omega
                    · rw [XW_len] at h2
                      rw [h3, hn0', Int.toNat_natCast, XW_get i (k + j) (by omega)]; exact ⟨rfl, by omega⟩
                  have hcm : x.came = 0 := (inv_y HE.out.2.1).1
                  rw [hpk, hn0', hs0.1, hcm] at e0
                  have hpe := ba_eq _ _ e0
                  rw [hpe] at c0
                  have hki : k + j < i := hs0.2
                  obtain ⟨cc, hccd⟩ : ∃ cc, cc = UInt8.ofNat (k + j) := ⟨_, rfl⟩
                  have hcv := conv_one (wr.alloc (.cells #[.int .u8 ((k : Int) + (j : Int))] 5)) wr.heap.size ((k : Int) + (j : Int)) cc (by rw [hccd, ofNat_toNat (k + j) (by omega)]; simp) (by simp)
                  have hrp := refpk_any ((k + j : Nat) : Int) 0 (bt (k + j)) (wr.alloc (.cells #[.int .u8 ((k : Int) + (j : Int))] 5)) (by unfold i64; omega) (by unfold i64; omega) (by show 1 ≤ 2000; omega)
                  simp only [Int.natCast_add] at hrp c0
                  obtain ⟨PB, hPB⟩ : ∃ PB : ByteArray, PB = ⟨(pkB ((k : Int) + (j : Int)) 0 (bt (k + j))).toArray⟩ := ⟨_, rfl⟩
                  rw [← hPB] at hrp c0
                  have hbt : bt (k + j) = (⟨#[cc]⟩ : ByteArray) := by rw [hccd]; rfl
                  rw [hbt] at hrp
                  have hj1 : (j : Int) < (P.length : Int) := by omega
                  have hj2 : (j : Int) < 8 ∨ True := .inr trivial
                  clear e0 hpe hpk htru hn0 hn1 hn0' hs0 hcm hcells' hb' hbase' hPB hxq hjo hbt hccd
                  rw [← HPE.out] at hj1
                  go_wp2_with fail
                  refine hrp.mono ?_
                  rintro e w6 ⟨rfl, hb6⟩
                  have H6 : Hid (Two w w6 { x with owes := false } y ∧ TxRow (w.heap.size + 2) w6 (some ⟨b', o', none⟩) P) := ⟨(H5.out.1.below ((Below.refl _ _).alloc (Nat.le_refl _) _)).below hb6, (H5.out.2.keep (Keeps.ofBelow ((Below.refl _ _).alloc (Nat.le_refl _) _))).keep (Keeps.ofBelow hb6)⟩
                  clear hb6 hrp hcv
                  go_wp2
                  go_roundw
                  case rel => exact ⟨j + 1, by go_num, by omega, H6⟩
                  case measure => simp [intOf]; omega
                · obtain rfl : j = P.length := by omega
                  rw [← HPE.out]
                  go_wp2_with fail
                  refine (lawake_any _).mono ?_
                  rintro e w8 ⟨rfl, hb8⟩
                  have h8 := H5.out.1.below hb8
                  have k1 : w8.cell? ⟨w.heap.size, 1, none⟩ = some (.int .i64 x.acked) := h8.a.k1
                  rw [HE.out.2.2.1] at k1
                  have HB : Hid (Below w.heap.size w w8) := h8.bel
                  clear h8 hb8
                  go_wp2
                  go_ret
                  exact ⟨ret_b (by simp), HB.out⟩
  · have hc' : a0 < 0 ∨ (0 ≤ a0 ∧ 64 < a0) ∨ ((0 ≤ a0 ∧ a0 ≤ 64) ∧ a1 < 0) ∨ ((0 ≤ a0 ∧ a0 ≤ 64) ∧ 0 ≤ a1 ∧ a0 < a1) := by omega
    clear hc
    rcases hc' with hc | ⟨hc1, hc⟩ | ⟨⟨hc1, hc2⟩, hc⟩ | ⟨⟨hc1, hc2⟩, hc3, hc⟩
    all_goals
      go_enter Try.func3, Try.ntmps3
      go_wp2_with (go_at_call 5; refine (lawake_any _).mono ?_; rintro e w4 ⟨rfl, hb4⟩)
      all_goals
        go_ret
        exact ⟨rfl, hb4⟩

/-! ### THE ROW's STEP: WRITTEN OUT: LEAVE IT -/
set_option maxRecDepth 100000 in
theorem lifted (os : Os) (started : os.Started) (H : Type) (enc : TypeId × Value → H) :
    ReturnsInHanded {} Try.checked os 3 .any (Rows.linkWindowSpec.pre6 enc Try.prog Try.f3 Rows.linkWindowRow.domain false) (Rows.linkWindowSpec.post enc Try.prog Try.f3 false true false false) := by
  refine returnsInHanded_of_change (C := Try.checked) own started (by kernel_rfl) Try.func3
    (ChangeSpec.witness6 (enc := enc) (C := Try.checked) false ⟨#[], #[.int .i64 0, .int .i64 0], []⟩ 8 (by kernel_rfl) (by kernel_rfl) (by kernel_rfl) (by kernel_rfl)) ?_
  intro W base args ds gs before hval0 hW hcnd _
  have hval : ∀ (j : Nat) t v, Try.f3.params[j]? = some t → args[j]? = some v → Value.okWide Try.prog W .any base t v := hval0
  have hW' := hW
  obtain ⟨p, q, hA0, hV, rfl, hfz, hnd⟩ := hW
  have hA : DataW.TrodAll enc Try.prog W 0 (fun _ => true) true Try.f3.params.toList args.toList ds p := hA0
  rw [Try.params3] at hA hval
  obtain ⟨v0, vs0, d0, ds0, p0, q0, hargs, rfl, rfl, h0, r0⟩ := trodAll_cons hA
  obtain ⟨v1, vs1, d1, ds1, p1, q1, rfl, rfl, rfl, h1, r1⟩ := trodAll_cons r0
  obtain ⟨rfl, rfl, rfl⟩ := trodAll_nil r1
  obtain rfl : args = #[v0, v1] := by cases args; simp_all
  obtain ⟨rfl, rfl⟩ := trodVars_none hV
  obtain ⟨a0, rfl, rfl, rfl, w0⟩ := open_int Try.underlying3 (hval 0 3 v0 rfl rfl) h0
  obtain ⟨a1, rfl, rfl, rfl, w1⟩ := open_int Try.underlying3 (hval 1 3 v1 rfl rfl) h1
  clear hA0 hval0
  simp only [List.append_nil] at hW'
  refine (walk a0 a1 w0 w1 W).mono fun e W' ⟨he, bel⟩ => ?_
  subst he
  exact ⟨_, rfl, _, _, _, [], [], [], hW', trodAll_mk1 (shut_bool Try.underlying4 _), (trodAll_cons_mk (shut_int Try.underlying3 w0) (trodAll_cons_mk (shut_int Try.underlying3 w1) trodAll_mk0)), rfl, bel.frame _, fun h => by cases h⟩

theorem over : Rows.linkWindowRow.holds Try.pinned (OpenSpec.ofChange Rows.linkWindowSpec) :=
  OpenClaim.holds_of_wide 3 Try.f3 rfl rfl rfl rfl rfl rfl rfl ⟨rfl, rfl, rfl, rfl, rfl⟩ rfl rfl rfl rfl rfl (by kernel_rfl) Try.func3 (by kernel_rfl)
    (of_decide_eq_true (by kernel_rfl)) (by unfold Func.isWrapper; first | (rw [if_pos (by decide +kernel)]; kernel_rfl) | (rw [if_neg (by decide +kernel)]; exact ⟨rfl, rfl⟩))
    (fun os started H enc _ => lifted os started H enc)

end Go.Proofs.Ytcclfibojmfjgac.linkWindow

namespace Go.Proofs.Ytcclfibojmfjgac
/-- Proved: for every two numbers, LinkWindow answers true (at most eight texts go at once, the first ones that wait, by rising numbers; of at most 64). -/
theorem linkWindow_holds : Rows.LinkWindowSaid := linkWindow.over
#print axioms linkWindow_holds
end Go.Proofs.Ytcclfibojmfjgac
