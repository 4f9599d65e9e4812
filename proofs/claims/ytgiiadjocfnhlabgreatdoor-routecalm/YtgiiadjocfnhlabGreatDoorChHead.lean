/- peer.lives, Head, Nearer, Rectify, of a chord ring. -/
import Derived.Test.YtgiiadjocfnhlabGreatDoorChRing
import Derived.Test.YtgiiadjocfnhlabGreatDoorRing
import Derived.Deep.LoopGhost
namespace Go.Proofs.YtgiiadjocfnhlabGreatDoor
open Go.ChangeShapes Go.WideShapes Go.ChangeAt Go.RowKit Go.Deep
set_option linter.unusedVariables false

/-- The first one that lives; -1: none. -/
def headF (L : Int → Bool) : List Int → Int
  | [] => -1
  | n :: l => if L n then n else headF L l
/-- Who lives, as layer 9 asks it. -/
def Rg.lv (R : Rg) (n : Int) : Bool := n != -1 && R.lives n
def Rg.near (R : Rg) (q frm to : Int) : Bool := R.lv q && (to != -1 && withinB (R.idOf q) frm (R.idOf to))
def Rg.rect (R : Rg) (id pred n : Int) : Int := if !R.lv pred || (n != -1 && withinB (R.idOf n) (R.idOf pred) id) then n else pred

theorem headF_drop (L : Int → Bool) (l : List Int) (k : Nat) (hk : k < l.length) : headF L (l.drop k) = if L (l.getD k 0) then l.getD k 0 else headF L (l.drop (k + 1)) := by
  rw [List.drop_eq_getElem_cons hk]
  have e : l.getD k 0 = l[k] := by simp [List.getD, hk]
  rw [e]; rfl

theorem mr_lives (a : Addr) (w : World) : (method 332 27 (.pointer (some a)) "Lives").run Tryz.prog w = .ok (38, .pointer (some a)) w := by kernel_rfl
theorem mr_id (a : Addr) (w : World) : (method 332 27 (.pointer (some a)) "Id").run Tryz.prog w = .ok (40, .pointer (some a)) w := by kernel_rfl
theorem mw_lives (v0 v1 : Value) (w : World) : (method 332 152 (.agg #[v0, v1]) "Lives").run Tryz.prog w = .ok (158, .agg #[v0, v1]) w := by kernel_rfl

/-- The ring as one that is asked. -/
def kvR (r : Nat) : Value := .iface 27 (.pointer (some ⟨r, 0, none⟩))

set_option maxHeartbeats 1000000 in
theorem plives_r (r gp gk : Nat) (R : Rg) (n : Int) (w : World) (h : RingAt w r gp gk R) :
    Calls Tryz.prog 85 #[.int .i64 n, .iface 27 (.pointer (some ⟨r, 0, none⟩))] w fun e w' => e = .returned (.bool (R.lv n)) ∧ Below w.heap.size w w' := by
  have m1 := fun a w => mr_lives a w
  by_cases q : n = -1
  · subst q
    go_enter Tryz.func85, Tryz.ntmps85
    go_wp2
    go_ret
    exact ⟨rfl, Below.refl _ _⟩
  · have H : Hid (RingAt w r gp gk R) := h
    clear h
    go_enter Tryz.func85, Tryz.ntmps85
    go_wp2_with (go_at_call 38; refine (lives_r _ _ _ _ _ _ H.out).mono ?_; rintro e w' ⟨rfl, hb⟩)
    go_ret
    exact ⟨ret_b (by simp [Rg.lv]), hb⟩

set_option maxHeartbeats 1000000 in
theorem wlives_r (r gp gk : Nat) (R : Rg) (g n : Int) (w : World) (h : RingAt w r gp gk R) :
    Calls Tryz.prog 158 #[.agg #[.pointer (some ⟨r, 0, none⟩), .int .i64 g], .int .i64 n] w fun e w' => e = .returned (.bool (n != g && R.lives n)) ∧ Below w.heap.size w w' := by
  have H : Hid (RingAt w r gp gk R) := h
  clear h
  by_cases q : n = g
  · subst q
    have e : (n != n) = false := by simp
    go_enter Tryz.func158, Tryz.ntmps158
    go_wp2
    go_ret
    exact ⟨ret_b (by simp), below_one _ _⟩
  · have e : (n != g) = true := by simpa using q
    go_enter Tryz.func158, Tryz.ntmps158
    go_wp2_with (go_at_call 38; refine (lives_r _ _ _ _ _ _ (H.out.below (below_one _ _))).mono ?_; rintro e w' ⟨rfl, hb⟩)
    go_ret
    exact ⟨ret_b (by simp [e]), (below_one _ _).trans (hb.mono (by simp))⟩

set_option maxHeartbeats 1000000 in
theorem plives_w (r gp gk : Nat) (R : Rg) (g n : Int) (w : World) (h : RingAt w r gp gk R) :
    Calls Tryz.prog 85 #[.int .i64 n, .iface 152 (.agg #[.pointer (some ⟨r, 0, none⟩), .int .i64 g])] w fun e w' => e = .returned (.bool (n != -1 && (n != g && R.lives n))) ∧ Below w.heap.size w w' := by
  have m1 := fun a b w => mw_lives a b w
  by_cases q : n = -1
  · subst q
    go_enter Tryz.func85, Tryz.ntmps85
    go_wp2
    go_ret
    exact ⟨ret_b (by simp), Below.refl _ _⟩
  · have H : Hid (RingAt w r gp gk R) := h
    clear h
    go_enter Tryz.func85, Tryz.ntmps85
    go_wp2_with (go_at_call 158; refine (wlives_r _ _ _ _ _ _ _ H.out).mono ?_; rintro e w' ⟨rfl, hb⟩)
    go_ret
    exact ⟨rfl, hb⟩

/-- Head, of whomever is asked who lives. -/
theorem head_gen (kv : Value) (L : Int → Bool) (id pred : Value) (a : Option Addr) (len cap : Nat) (l : List Int) (w : World) (hl : InIn w a len l)
    (hK : ∀ w1, Below w.heap.size w w1 → ∀ n, Calls Tryz.prog 85 #[.int .i64 n, kv] w1 fun e w' => e = .returned (.bool (L n)) ∧ Below w1.heap.size w1 w') :
    Calls Tryz.prog 54 #[.agg #[id, pred, .slice a len cap], kv] w fun e w' => e = .returned (.int .i64 (headF L l)) ∧ Below w.heap.size w w' := by
  have HL : Hid (InIn w a len l) := hl
  have HN : Hid (l.length = len) := hl.1
  have HK : Hid (∀ w1, Below w.heap.size w w1 → ∀ n, Calls Tryz.prog 85 #[.int .i64 n, kv] w1 fun e w' => e = .returned (.bool (L n)) ∧ Below w1.heap.size w1 w') := hK
  have hm := hl.2.1
  clear hl hK
  go_enter Tryz.func54, Tryz.ntmps54
  go_wp2
  go_loopg [10] len (fun kx s wr => ∃ k : Nat, s = .int .i64 k ∧ k ≤ len ∧ kx = len - k ∧ Hid (Below w.heap.size w wr) ∧ Hid (headF L (l.drop k) = headF L l))
  case atStart => exact ⟨0, rfl, Nat.zero_le _, rfl, below_one _ _, (rfl : headF L (l.drop 0) = headF L l)⟩
  case round =>
    obtain ⟨k, rfl, hk, rfl, HB, I⟩ := hrel
    by_cases hlt : k < len
    · obtain ⟨b, o, rfl, hb, hx, hc⟩ := (HL.out.below (Nat.le_refl _) HB.out).one (v := Value.int .i64) (fun _ => rfl) (i := k) hlt
      have E : Hid (headF L (l.drop k) = if L (l.getD k 0) then l.getD k 0 else headF L (l.drop (k + 1))) := headF_drop L l k (by rw [HN.out]; exact hlt)
      generalize l.getD k 0 = x at hx hc E
      clear hx
      cases hq : L x
      all_goals
        have HQ : Hid _ := hq
        clear hq
        go_wp2_with (go_at_call 85; refine (HK.out _ HB.out _).mono ?_; rintro e w' ⟨rfl, hb'⟩; rw [HQ.out])
      · go_roundg (len - (k + 1))
        case measure => omega
        case rel => exact ⟨k + 1, by go_num, by omega, rfl, HB.out.trans (hb'.mono HB.out.size), by rw [← I.out, E.out, HQ.out]; rfl⟩
      · go_ret
        exact ⟨ret_i (by rw [← I.out, E.out, HQ.out]; rfl), HB.out.trans (hb'.mono HB.out.size)⟩
    · go_wp2
      go_ret
      exact ⟨ret_i (by rw [← I.out, List.drop_of_length_le (by rw [HN.out]; omega)]; rfl), HB.out⟩

theorem head_r (r gp gk : Nat) (R : Rg) (id pred : Value) (a : Option Addr) (len cap : Nat) (l : List Int) (w : World) (h : RingAt w r gp gk R) (hl : InIn w a len l) :
    Calls Tryz.prog 54 #[.agg #[id, pred, .slice a len cap], .iface 27 (.pointer (some ⟨r, 0, none⟩))] w fun e w' => e = .returned (.int .i64 (headF R.lv l)) ∧ Below w.heap.size w w' :=
  head_gen _ _ _ _ _ _ _ _ _ hl (fun w1 hb n => plives_r _ _ _ _ _ _ (h.below hb))
theorem head_w (r gp gk : Nat) (R : Rg) (g : Int) (id pred : Value) (a : Option Addr) (len cap : Nat) (l : List Int) (w : World) (h : RingAt w r gp gk R) (hl : InIn w a len l) :
    Calls Tryz.prog 54 #[.agg #[id, pred, .slice a len cap], .iface 152 (.agg #[.pointer (some ⟨r, 0, none⟩), .int .i64 g])] w fun e w' => e = .returned (.int .i64 (headF (fun n => n != -1 && (n != g && R.lives n)) l)) ∧ Below w.heap.size w w' :=
  head_gen _ (fun n => n != -1 && (n != g && R.lives n)) _ _ _ _ _ _ _ hl (fun w1 hb n => plives_w _ _ _ _ _ _ _ (h.below hb))

theorem rectF_no {R : Rg} {id pred n : Int} (h : R.lv pred = true) (h2 : (n != -1 && withinB (R.idOf n) (R.idOf pred) id) = false) : R.rect id pred n = pred := by
  unfold Rg.rect; rw [h, h2]; rfl
theorem rectF_dead {R : Rg} {id pred n : Int} (h : R.lv pred = false) : R.rect id pred n = n := by
  unfold Rg.rect; rw [h]; rfl
theorem rectF_in {R : Rg} {id pred n : Int} (h : (n != -1 && withinB (R.idOf n) (R.idOf pred) id) = true) : R.rect id pred n = n := by
  unfold Rg.rect; rw [h]; simp

set_option maxHeartbeats 2000000 in
theorem rectify_r (r gp gk : Nat) (R : Rg) (id pred n : Int) (sa : Option Addr) (sl sc : Nat) (w : World) (h : RingAt w r gp gk R) :
    Calls Tryz.prog 69 #[.agg #[.int .u64 id, .int .i64 pred, .slice sa sl sc], .int .i64 n, .iface 27 (.pointer (some ⟨r, 0, none⟩))] w fun e w' => e = .returned (.agg #[.int .u64 id, .int .i64 (R.rect id pred n), .slice sa sl sc]) ∧ Below w.heap.size w w' := by
  have m1 := fun a w => mr_id a w
  obtain ⟨W0, hW0⟩ : ∃ W0, W0 = (w.alloc (.cells #[.int .u64 id, .int .i64 pred, .slice sa sl sc] 63)).alloc (.cells #[.int .u64 0, .int .i64 0, .slice none 0 0] 63) := ⟨_, rfl⟩
  have b0 : Below w.heap.size w W0 := by rw [hW0]; exact (below_one _ _).trans ((below_one _ _).mono (by simp))
  have s0 : W0.heap.size = w.heap.size + 2 := by rw [hW0]; simp
  have f0 : W0.cell? ⟨w.heap.size, 0, none⟩ = some (.int .u64 id) := by rw [hW0]; simp
  have f1 : W0.cell? ⟨w.heap.size, 1, none⟩ = some (.int .i64 pred) := by rw [hW0]; simp
  have f2 : W0.cell? ⟨w.heap.size, 2, none⟩ = some (.slice sa sl sc) := by rw [hW0]; simp
  have g0 : W0.cell? ⟨w.heap.size + 1, 0, none⟩ = some (.int .u64 0) := by rw [hW0]; simp
  have g1 : W0.cell? ⟨w.heap.size + 1, 1, none⟩ = some (.int .i64 0) := by rw [hW0]; simp
  have g2 : W0.cell? ⟨w.heap.size + 1, 2, none⟩ = some (.slice none 0 0) := by rw [hW0]; simp
  have k0 : ∀ o, W0.frozen? ⟨w.heap.size, o, none⟩ = false := fun o => by rw [hW0]; simp
  have k1 : ∀ o, W0.frozen? ⟨w.heap.size + 1, o, none⟩ = false := fun o => by rw [hW0]; simp
  have HK : Hid ((∀ o, W0.frozen? ⟨w.heap.size, o, none⟩ = false) ∧ (∀ o, W0.frozen? ⟨w.heap.size + 1, o, none⟩ = false)) := ⟨k0, k1⟩
  clear k0 k1
  have A0 : Hid (RingAt W0 r gp gk R) := h.below b0
  clear h
  obtain ⟨ι, F, _, hF0, hFb, hFc⟩ := grown_fam W0
  have F0 : ∀ i, (F i).cell? ⟨w.heap.size, 0, none⟩ = some (.int .u64 id) := fun i => cell_grown f0 (hFb i)
  have F1 : ∀ i, (F i).cell? ⟨w.heap.size, 1, none⟩ = some (.int .i64 pred) := fun i => cell_grown f1 (hFb i)
  have HF : Hid ((∃ i, { W0 with drawn := W0.drawn + 1 } = F i) ∧ (∀ i, Below W0.heap.size W0 (F i)) ∧ (∀ i W, Below W0.heap.size (F i) W → ∃ j, W = F j)) := ⟨hF0, hFb, hFc⟩
  have HG : Hid (W0.cell? ⟨w.heap.size, 0, none⟩ = some (.int .u64 id) ∧ W0.cell? ⟨w.heap.size, 1, none⟩ = some (.int .i64 pred) ∧ W0.cell? ⟨w.heap.size, 2, none⟩ = some (.slice sa sl sc) ∧ W0.cell? ⟨w.heap.size + 1, 0, none⟩ = some (.int .u64 0) ∧ W0.cell? ⟨w.heap.size + 1, 1, none⟩ = some (.int .i64 0) ∧ W0.cell? ⟨w.heap.size + 1, 2, none⟩ = some (.slice none 0 0)) := ⟨f0, f1, f2, g0, g1, g2⟩
  have B0 : Hid (Below w.heap.size w W0 ∧ W0.heap.size = w.heap.size + 2) := ⟨b0, s0⟩
  clear hF0 hFb hFc b0 s0 f0 f1 f2 g0 g1 g2
  cases hq : R.lv pred
  · have HQ : Hid _ := hq
    have HR : Hid (R.rect id pred n = n) := rectF_dead hq
    clear hq
    go_enter Tryz.func69, Tryz.ntmps69
    go_wp2_with fail
    rw [← hW0]
    clear hW0
    refine wp_region_fam F HF.out.1 (by kernel_rfl) (by kernel_rfl) ?_
    repeat (go_big_quiet_step (first
      | (go_at_call 85; refine (plives_r _ _ _ _ _ _ (A0.out.below (HF.out.2.1 _))).mono ?_; rintro e' w' ⟨hs, hb⟩; exact ⟨by rw [hs, HQ.out], HF.out.2.2 _ _ (hb.mono (HF.out.2.1 _).size)⟩)))
    refine wpQuiet_nil ?_
    rintro _ ⟨i, rfl⟩
    have BF := HF.out.2.1 i
    have BW : Hid (Below w.heap.size w (F i)) := B0.out.1.trans (BF.mono B0.out.1.size)
    have c0 := cell_grown HG.out.1 BF
    have c1 := cell_grown HG.out.2.1 BF
    have c2 := cell_grown HG.out.2.2.1 BF
    have c3 := cell_grown HG.out.2.2.2.1 BF
    have c4 := cell_grown HG.out.2.2.2.2.1 BF
    have c5 := cell_grown HG.out.2.2.2.2.2 BF
    have z0 : w.heap.size < (F i).heap.size := by have := BF.size; have := B0.out.2; omega
    have z1 : w.heap.size + 1 < (F i).heap.size := by have := BF.size; have := B0.out.2; omega
    have k0 : ∀ o, (F i).frozen? ⟨w.heap.size, o, none⟩ = false := fun o => (BF.frozen (p := ⟨w.heap.size, o, none⟩) (by have := B0.out.2; show w.heap.size < _; omega)).trans (HK.out.1 o)
    have k1 : ∀ o, (F i).frozen? ⟨w.heap.size + 1, o, none⟩ = false := fun o => (BF.frozen (p := ⟨w.heap.size + 1, o, none⟩) (by have := B0.out.2; show w.heap.size + 1 < _; omega)).trans (HK.out.2 o)
    generalize F i = Wn at k0 k1 BW c0 c1 c2 c3 c4 c5 z0 z1
    clear BF F0 F1 HF HG B0 A0
    go_wp2
    refine bodyPost_ret (v := .agg #[.int .u64 id, .int .i64 n, .slice sa sl sc]) (by simp [results, Tryz.results69, go_sem, *]) rfl ⟨by rw [HR.out], ?_⟩
    exact BW.out.trans (((((Below.refl _ _).setCell (by simp) _).setCell (by simp) _).setCell (by simp) _).setCell (by simp) _)
  · have HQ : Hid _ := hq
    by_cases hn1 : n = -1
    · subst hn1
      have HR : Hid (R.rect id pred (-1) = pred) := rectF_no hq rfl
      clear hq
      go_enter Tryz.func69, Tryz.ntmps69
      go_wp2_with fail
      rw [← hW0]
      clear hW0
      refine wp_region_fam F HF.out.1 (by kernel_rfl) (by kernel_rfl) ?_
      repeat (go_big_quiet_step (first
        | (go_at_call 85; refine (plives_r _ _ _ _ _ _ (A0.out.below (HF.out.2.1 _))).mono ?_; rintro e' w' ⟨hs, hb⟩; exact ⟨by rw [hs, HQ.out], HF.out.2.2 _ _ (hb.mono (HF.out.2.1 _).size)⟩)))
      refine wpQuiet_nil ?_
      rintro _ ⟨i, rfl⟩
      have BF := HF.out.2.1 i
      have BW : Hid (Below w.heap.size w (F i)) := B0.out.1.trans (BF.mono B0.out.1.size)
      have c0 := cell_grown HG.out.1 BF
      have c1 := cell_grown HG.out.2.1 BF
      have c2 := cell_grown HG.out.2.2.1 BF
      have c3 := cell_grown HG.out.2.2.2.1 BF
      have c4 := cell_grown HG.out.2.2.2.2.1 BF
      have c5 := cell_grown HG.out.2.2.2.2.2 BF
      have z0 : w.heap.size < (F i).heap.size := by have := BF.size; have := B0.out.2; omega
      have z1 : w.heap.size + 1 < (F i).heap.size := by have := BF.size; have := B0.out.2; omega
      have k0 : ∀ o, (F i).frozen? ⟨w.heap.size, o, none⟩ = false := fun o => (BF.frozen (p := ⟨w.heap.size, o, none⟩) (by have := B0.out.2; show w.heap.size < _; omega)).trans (HK.out.1 o)
      have k1 : ∀ o, (F i).frozen? ⟨w.heap.size + 1, o, none⟩ = false := fun o => (BF.frozen (p := ⟨w.heap.size + 1, o, none⟩) (by have := B0.out.2; show w.heap.size + 1 < _; omega)).trans (HK.out.2 o)
      generalize F i = Wn at k0 k1 BW c0 c1 c2 c3 c4 c5 z0 z1
      clear BF F0 F1 HF HG B0 A0
      go_wp2
      refine bodyPost_ret (v := .agg #[.int .u64 id, .int .i64 pred, .slice sa sl sc]) (by simp [results, Tryz.results69, go_sem, *]) rfl ⟨by rw [HR.out], ?_⟩
      exact BW.out.trans ((((Below.refl _ _).setCell (by simp) _).setCell (by simp) _).setCell (by simp) _)
    · have hne : (n != -1) = true := by simpa using hn1
      cases hwi : withinB (R.idOf n) (R.idOf pred) id
      · have HR : Hid (R.rect id pred n = pred) := rectF_no hq (by rw [hwi]; simp)
        have HW : Hid _ := hwi
        clear hq hwi
        go_enter Tryz.func69, Tryz.ntmps69
        go_wp2_with fail
        rw [← hW0]
        clear hW0
        refine wp_region_fam F HF.out.1 (by kernel_rfl) (by kernel_rfl) ?_
        repeat (go_big_quiet_step (first
          | (go_at_call 85; refine (plives_r _ _ _ _ _ _ (A0.out.below (HF.out.2.1 _))).mono ?_; rintro e' w' ⟨hs, hb⟩; exact ⟨by rw [hs, HQ.out], HF.out.2.2 _ _ (hb.mono (HF.out.2.1 _).size)⟩)
          | (refine (id_r _ _ _ _ _ _ (A0.out.below (HF.out.2.1 _))).mono ?_; rintro e' w' ⟨hs, hb⟩; exact ⟨hs, _, hb⟩)
          | (go_at_call 86; refine (within_any _ _ _ _).mono ?_; rintro e' w' ⟨hs, hb⟩; exact ⟨by rw [hs, HW.out], _, hb⟩)))
        refine wpQuiet_nil ?_
        rintro _ ⟨i, rfl⟩
        have BF := HF.out.2.1 i
        have BW : Hid (Below w.heap.size w (F i)) := B0.out.1.trans (BF.mono B0.out.1.size)
        have c0 := cell_grown HG.out.1 BF
        have c1 := cell_grown HG.out.2.1 BF
        have c2 := cell_grown HG.out.2.2.1 BF
        have c3 := cell_grown HG.out.2.2.2.1 BF
        have c4 := cell_grown HG.out.2.2.2.2.1 BF
        have c5 := cell_grown HG.out.2.2.2.2.2 BF
        have z0 : w.heap.size < (F i).heap.size := by have := BF.size; have := B0.out.2; omega
        have z1 : w.heap.size + 1 < (F i).heap.size := by have := BF.size; have := B0.out.2; omega
        have k0 : ∀ o, (F i).frozen? ⟨w.heap.size, o, none⟩ = false := fun o => (BF.frozen (p := ⟨w.heap.size, o, none⟩) (by have := B0.out.2; show w.heap.size < _; omega)).trans (HK.out.1 o)
        have k1 : ∀ o, (F i).frozen? ⟨w.heap.size + 1, o, none⟩ = false := fun o => (BF.frozen (p := ⟨w.heap.size + 1, o, none⟩) (by have := B0.out.2; show w.heap.size + 1 < _; omega)).trans (HK.out.2 o)
        generalize F i = Wn at k0 k1 BW c0 c1 c2 c3 c4 c5 z0 z1
        clear BF F0 F1 HF HG B0 A0
        go_wp2
        refine bodyPost_ret (v := .agg #[.int .u64 id, .int .i64 pred, .slice sa sl sc]) (by simp [results, Tryz.results69, go_sem, *]) rfl ⟨by rw [HR.out], ?_⟩
        exact BW.out.trans ((((Below.refl _ _).setCell (by simp) _).setCell (by simp) _).setCell (by simp) _)
      · have HR : Hid (R.rect id pred n = n) := rectF_in (by rw [hwi, hne]; rfl)
        have HW : Hid _ := hwi
        clear hq hwi
        go_enter Tryz.func69, Tryz.ntmps69
        go_wp2_with fail
        rw [← hW0]
        clear hW0
        refine wp_region_fam F HF.out.1 (by kernel_rfl) (by kernel_rfl) ?_
        repeat (go_big_quiet_step (first
          | (go_at_call 85; refine (plives_r _ _ _ _ _ _ (A0.out.below (HF.out.2.1 _))).mono ?_; rintro e' w' ⟨hs, hb⟩; exact ⟨by rw [hs, HQ.out], HF.out.2.2 _ _ (hb.mono (HF.out.2.1 _).size)⟩)
          | (refine (id_r _ _ _ _ _ _ (A0.out.below (HF.out.2.1 _))).mono ?_; rintro e' w' ⟨hs, hb⟩; exact ⟨hs, _, hb⟩)
          | (go_at_call 86; refine (within_any _ _ _ _).mono ?_; rintro e' w' ⟨hs, hb⟩; exact ⟨by rw [hs, HW.out], _, hb⟩)))
        refine wpQuiet_nil ?_
        rintro _ ⟨i, rfl⟩
        have BF := HF.out.2.1 i
        have BW : Hid (Below w.heap.size w (F i)) := B0.out.1.trans (BF.mono B0.out.1.size)
        have c0 := cell_grown HG.out.1 BF
        have c1 := cell_grown HG.out.2.1 BF
        have c2 := cell_grown HG.out.2.2.1 BF
        have c3 := cell_grown HG.out.2.2.2.1 BF
        have c4 := cell_grown HG.out.2.2.2.2.1 BF
        have c5 := cell_grown HG.out.2.2.2.2.2 BF
        have z0 : w.heap.size < (F i).heap.size := by have := BF.size; have := B0.out.2; omega
        have z1 : w.heap.size + 1 < (F i).heap.size := by have := BF.size; have := B0.out.2; omega
        have k0 : ∀ o, (F i).frozen? ⟨w.heap.size, o, none⟩ = false := fun o => (BF.frozen (p := ⟨w.heap.size, o, none⟩) (by have := B0.out.2; show w.heap.size < _; omega)).trans (HK.out.1 o)
        have k1 : ∀ o, (F i).frozen? ⟨w.heap.size + 1, o, none⟩ = false := fun o => (BF.frozen (p := ⟨w.heap.size + 1, o, none⟩) (by have := B0.out.2; show w.heap.size + 1 < _; omega)).trans (HK.out.2 o)
        generalize F i = Wn at k0 k1 BW c0 c1 c2 c3 c4 c5 z0 z1
        clear BF F0 F1 HF HG B0 A0
        go_wp2
        refine bodyPost_ret (v := .agg #[.int .u64 id, .int .i64 n, .slice sa sl sc]) (by simp [results, Tryz.results69, go_sem, *]) rfl ⟨by rw [HR.out], ?_⟩
        exact BW.out.trans (((((Below.refl _ _).setCell (by simp) _).setCell (by simp) _).setCell (by simp) _).setCell (by simp) _)
end Go.Proofs.YtgiiadjocfnhlabGreatDoor
