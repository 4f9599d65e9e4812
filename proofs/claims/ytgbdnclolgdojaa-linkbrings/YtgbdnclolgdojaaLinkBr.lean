/- Two ends to and fro: what LinkBrings' rounds do; wigwagref04.SameTexts of two rows. -/
import Derived.Test.YtgbdnclolgdojaaLinkLr2
import Derived.Deep.QuietTactic
import Derived.BigQuiet
import Derived.Deep.LoopGhost
namespace Go.Proofs.Ytgbdnclolgdojaa
open Go.ChangeShapes Go.WideShapes Go.ChangeAt Go.RowKit
set_option linter.unusedVariables false

/-- One side (s) sends; the other one (t) has taken j of its packets. M: what had come to t, c: what had come to s, a0: what t knew of it. -/
structure Lx (s t : Lk) (a0 : Int) (M c j : Nat) : Prop where
  cm : t.came = if s.q = [] then (M : Int) else (M : Int) + j
  ow : s.q ≠ [] → 0 < j → t.owes = true
  ak : t.acked = if j = 0 then a0 else (c : Int)
theorem Lx.start {s t : Lk} {M c : Nat} (h : t.came = M) : Lx s t t.acked M c 0 := ⟨by rw [h]; split <;> simp, fun _ h => absurd h (Nat.lt_irrefl _), by rw [if_pos rfl]⟩
theorem Lx.start2 {s t : Lk} {M c : Nat} {a0 : Int} (h : t.came = M) (ha : t.acked = a0) : Lx s t a0 M c 0 := ⟨by rw [h]; split <;> simp, fun _ h => absurd h (Nat.lt_irrefl _), by rw [if_pos rfl]; exact ha⟩
theorem Lx.step {s t : Lk} {a0 : Int} {M c j : Nat} {n0 : Int} {T : List ByteArray} (h : Lx s t a0 M c j) (ha : s.acked = M) (hc : s.came = c) (h1 : s.q ≠ [] → n0 = s.acked + j) (h2 : s.q = [] → n0 = -1) (hT : (t.q.length : Int) = T.length - t.acked) (hcT : (c : Int) ≤ T.length) (h0 : a0 ≤ c) : Lx s (t.got n0 c) a0 M c (j + 1) := by
  refine ⟨?_, fun hq _ => got_owes (by rw [h1 hq]; omega), ?_⟩
  · rw [got_came]
    have hcm := h.cm
    by_cases hq : s.q = []
    · rw [if_pos hq] at hcm ⊢
      rw [if_neg (fun hh => hh.1 (h2 hq)), hcm]
    · rw [if_neg hq] at hcm ⊢
      have := h1 hq
      rw [if_pos ⟨by omega, by omega⟩, hcm]; omega
  · rw [if_neg (by omega)]
    have hak := h.ak
    by_cases hj : j = 0
    · rw [if_pos hj] at hak
      by_cases e : a0 = c
      · rw [got_acked_same (by rw [hak, e]; omega), hak, e]
      · rw [got_acked (by rw [hak]; omega) (by rw [hT, hak]; omega)]
    · rw [if_neg hj] at hak
      rw [got_acked_same (by rw [hak]; omega), hak]
theorem Lx.yes {s t : Lk} {a0 : Int} {M c j : Nat} {n0 : Int} {s0 : ByteArray} (h : Lx s t a0 M c j) (ha : s.acked = M) (hq : s.q ≠ []) (h1 : s.q ≠ [] → n0 = s.acked + j) : t.ans n0 s0 = (s0, true) := by
  have hcm := h.cm
  rw [if_neg hq] at hcm
  have := h1 hq
  unfold Lk.ans
  rw [if_pos ⟨by omega, by omega⟩]
/-- What s sends. -/
theorem out_x {x y : Lk} {X Y : List ByteArray} (h : Inv x y X Y) {P : List ByteArray} (hP : bys P = x.out) {j : Nat} (hj : j < P.length) :
    ∃ n0 s0, (tx P j).data.toList = pkB n0 x.came s0 ∧ Tru X x.came n0 x.came s0 ∧ (x.q ≠ [] → n0 = x.acked + j) ∧ (x.q = [] → n0 = -1) := by
  obtain ⟨n0, s0, hpk, htru, h1, h2⟩ := out_true h j (by rw [← bys_len hP]; exact hj)
  have e0 := bys_get hP j hj
  rw [hpk] at e0
  exact ⟨n0, s0, e0, htru, h1, h2⟩
theorem take_more {X : List ByteArray} {n : Nat} (h : n < X.length) : X.take n ++ [tx X n] = X.take (n + 1) := by
  rw [List.take_succ_eq_append_getElem h]
  simp [tx, List.getD, h]
theorem imax_le {a b : Nat} (h : a ≤ b) : max (a : Int) (b : Int) = b := by omega
theorem imax_ge {a b : Nat} (h : b ≤ a) : max (a : Int) (b : Int) = a := by omega
/-- Both ends as they may be: at most 64 texts of at most 100 bytes each. -/
structure Bt (X Y : List ByteArray) : Prop where
  x : ∀ t ∈ X, t.size ≤ 100
  y : ∀ t ∈ Y, t.size ≤ 100
  lx : X.length ≤ 64
  ly : Y.length ≤ 64
theorem Bt.ok {X Y : List ByteArray} (h : Bt X Y) {n c cm : Int} {s : ByteArray} (ht : Tru X cm n c s) (hc : cm ≤ 1000) : PkOk n c s := tru_ok ht (by have := h.lx; omega) (by omega) (fun t ht => by have := h.x t ht; omega)
theorem Bt.swap {X Y : List ByteArray} (h : Bt X Y) : Bt Y X := ⟨h.y, h.x, h.ly, h.lx⟩
/-- r rounds are over. -/
structure Br (x y : Lk) (X Y : List ByteArray) (r : Nat) : Prop where
  xa : x.acked = (min X.length (8 * r) : Nat)
  yc : y.came = (min X.length (8 * r) : Nat)
  xc : x.came = (min Y.length (8 * r) : Nat)
  ya : y.acked = (min Y.length (8 * r) : Nat) ∨ x.q ≠ [] ∨ x.owes = true
/-- The first half of a round. -/
theorem Br.half {x y y' : Lk} {X Y : List ByteArray} {r nP : Nat} (h : Br x y X Y r) (hi : Inv x y X Y) (hP : nP = x.out.length) (hl : Lx x y' y.acked (min X.length (8 * r)) (min Y.length (8 * r)) nP) :
    y'.came = (min X.length (8 * (r + 1)) : Nat) ∧ y'.acked = (min Y.length (8 * r) : Nat) ∧ (min X.length (8 * r) = min X.length (8 * (r + 1)) ∨ y'.owes = true) := by
  have hx := hi.xlen
  have ha := h.xa
  by_cases hq : x.q = []
  · have hc := hl.cm
    rw [if_pos hq] at hc
    rw [hq] at hx
    simp only [List.length_nil] at hx
    have e : min X.length (8 * r) = min X.length (8 * (r + 1)) := by omega
    refine ⟨by rw [hc, e], ?_, .inl e⟩
    have hk := hl.ak
    by_cases h0 : nP = 0
    · rw [if_pos h0] at hk
      rcases h.ya with q | q | q
      · rw [hk, q]
      · exact absurd hq q
      · have := (lout_owes hq).2 q; omega
    · rw [if_neg h0] at hk; exact hk
  · have hc := hl.cm
    rw [if_neg hq] at hc
    have hpos := List.length_pos_iff.2 hq
    have hn := lout_q hq
    have hk := hl.ak
    rw [if_neg (by omega)] at hk
    exact ⟨by rw [hc]; omega, hk, .inr (hl.ow hq (by omega))⟩
/-- The second half. -/
theorem Br.next {x y' x' : Lk} {X Y : List ByteArray} {r nQ : Nat} (hi : Inv y' x Y X) (hQ : nQ = y'.out.length) (hyc : y'.came = (min X.length (8 * (r + 1)) : Nat)) (hya : y'.acked = (min Y.length (8 * r) : Nat)) (how : min X.length (8 * r) = min X.length (8 * (r + 1)) ∨ y'.owes = true)
    (hl : Lx y' x' (min X.length (8 * r) : Nat) (min Y.length (8 * r)) (min X.length (8 * (r + 1))) nQ) : Br x' { y' with owes := false } X Y (r + 1) := by
  have hx := hi.xlen
  have hak := hl.ak
  by_cases hq : y'.q = []
  · have hc := hl.cm
    rw [if_pos hq] at hc
    rw [hq] at hx
    simp only [List.length_nil] at hx
    have e : min Y.length (8 * r) = min Y.length (8 * (r + 1)) := by omega
    refine ⟨?_, hyc, by rw [hc, e], .inl (by show y'.acked = _; rw [hya, e])⟩
    by_cases h0 : nQ = 0
    · rw [if_pos h0] at hak
      rcases how with q | q
      · rw [hak, q]
      · have := (lout_owes hq).2 q; omega
    · rw [if_neg h0] at hak; exact hak
  · have hc := hl.cm
    rw [if_neg hq] at hc
    have hpos := List.length_pos_iff.2 hq
    have hn := lout_q hq
    rw [if_neg (by omega)] at hak
    exact ⟨hak, hyc, by rw [hc]; omega, .inr (.inr (hl.ow hq (by omega)))⟩

set_option maxRecDepth 100000 in
set_option maxHeartbeats 1000000 in
theorem texts4 {w wr : World} {m : Nat} {V : Nat → Value} {L : Nat → List ByteArray} {x y : Lk} (h : Lrw w wr m V L x y) (i j : Nat) (hi : i < m) (hj : j < m) (hL : L i = L j) (a b : Option Addr) (n c d : Nat) (hV : V i = .slice a n c) (hV' : V j = .slice b n d) (hn : n = (L i).length) (hl : n ≤ 1000) :
    Calls Try.prog 11 #[.slice a n c, .slice b n d] wr fun e w' => e = .returned (.bool true) ∧ Below wr.heap.size wr w' := by
  have H : Hid (Lrw w wr m V L x y) := h
  have HV : Hid (V i = .slice a n c ∧ V j = .slice b n d ∧ n = (L i).length ∧ L i = L j) := ⟨hV, hV', hn, hL⟩
  clear h hV hV' hn hL
  go_enter Try.func11, Try.ntmps11
  go_wp2
  go_loopg [13] n (fun kx s13 wz => ∃ k : Nat, s13 = .int .i64 k ∧ k ≤ n ∧ kx = n - k ∧ Hid (Below wr.heap.size wr wz))
  case atStart => exact ⟨0, rfl, Nat.zero_le _, rfl, (Below.refl _ _ : Below wr.heap.size wr wr)⟩
  case round =>
    rename World => wz
    obtain ⟨k, rfl, hk, rfl, HB⟩ := hrel
    by_cases hlt : k < n
    · obtain ⟨g, rfl, hg, f0⟩ := (H.out.below HB.out).get (i := i) (j := k) hi HV.out.1 (by rw [← HV.out.2.2.1]; exact hlt)
      obtain ⟨g', rfl, hg', f2⟩ := (H.out.below HB.out).get (i := j) (j := k) hj HV.out.2.1 (by rw [← HV.out.2.2.2, ← HV.out.2.2.1]; exact hlt)
      rw [HV.out.2.2.2] at f0
      generalize tx (L j) k = s at f0 f2
      have ix : (0 : Int) ≤ (k : Int) ∧ (k : Int) < (n : Int) := by omega
      go_wp2_with fail
      go_quiet (fail)
      have HB2 : Hid (Below wr.heap.size wr (wz.drewN nq)) := HB.out.trans ((below_dr _ _).mono HB.out.size)
      go_wp2
      go_roundg (n - (k + 1))
      case measure => omega
      case rel => exact ⟨k + 1, by go_num, by omega, rfl, HB2⟩
    · go_wp2
      go_ret
      exact ⟨rfl, HB.out⟩
end Go.Proofs.Ytgbdnclolgdojaa
