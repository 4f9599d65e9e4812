/- dyad.greatest. -/
import Derived.Test.YtkkbhkpeglcodaaGreatDoorDyChain
namespace Go.Proofs.YtkkbhkpeglcodaaGreatDoor
open Go.ChangeShapes Go.WideShapes Go.ChangeAt Go.RowKit
set_option linter.unusedVariables false

/-- Intervals that lie in memory. -/
structure IvIn (w : World) (v : Value) (xs : List Iv) : Prop where
  shape : ∃ a c, v = .slice a xs.length c ∧ (0 < xs.length → ∃ g, a = some ⟨g, 0, none⟩ ∧ g < w.heap.size ∧ xs.length ≤ c ∧ ∀ j, j < xs.length → w.cell? ⟨g, j * 2, none⟩ = some (.int .i64 (xs.getD j iv0).lev) ∧ w.cell? ⟨g, j * 2 + 1, none⟩ = some (.int .i64 (xs.getD j iv0).idx))
theorem IvIn.ofOwn {w : World} {B : Nat} {e : TypeId} {v : Value} {us : List Iv} (h : w.ownsRow B e 2 v us.length (us.flatMap Iv.cells)) : IvIn w v us := by
  refine ⟨?_⟩
  rcases h.2 with ⟨rfl, h1⟩ | ⟨g, cap, cur, hv, hb, hg, hnc, _⟩
  · exact ⟨none, 0, by rw [h1], fun h0 => by omega⟩
  · refine ⟨_, cap, hv, fun h0 => ⟨g, rfl, lt_of_block hg, hnc, fun j hj => ?_⟩⟩
    have key : ∀ i, i < 2 → w.cell? ⟨g, j * 2 + i, none⟩ = (us.getD j iv0).cells[i]? := fun i hi => by
      have hx := flat_get Iv.cells 2 Iv.cells_len iv0 us j i hj hi
      have hi' : i < (us.getD j iv0).cells.length := by rw [Iv.cells_len]; exact hi
      have e := h.cells (g := g) (by rw [hv]; rfl) (j * 2 + i) ((us.getD j iv0).cells[i]) (by rw [hx, List.getElem?_eq_getElem hi'])
      have ea : (⟨g, 0, none⟩ : Addr).add (j * 2 + i) = ⟨g, j * 2 + i, none⟩ := by unfold Addr.add; split <;> simp_all
      rw [ea] at e
      rw [e, List.getElem?_eq_getElem hi']
    exact ⟨by simpa [Iv.cells] using key 0 (by omega), by simpa [Iv.cells] using key 1 (by omega)⟩
theorem IvIn.below {w w' : World} {v : Value} {xs : List Iv} (h : IvIn w v xs) (hb : Below w.heap.size w w') : IvIn w' v xs := by
  obtain ⟨a, c, hv, hh⟩ := h.shape
  refine ⟨⟨a, c, hv, fun h0 => ?_⟩⟩
  obtain ⟨g, ha, hg, hc, hj⟩ := hh h0
  refine ⟨g, ha, Nat.lt_of_lt_of_le hg hb.size, hc, fun j hjl => ?_⟩
  rw [hb.cell (p := ⟨g, j * 2, none⟩) hg, hb.cell (p := ⟨g, j * 2 + 1, none⟩) hg]
  exact hj j hjl
theorem IvRow.isIn {T : TypeId} {w0 w : World} {v : Value} {xs : List Iv} (h : IvRow T w0 w v xs) : IvIn w v xs := IvIn.ofOwn h.row

theorem cell_old (w : World) (o : Obj) (b j : Nat) (h : b < w.heap.size) : (w.alloc o).cell? ⟨b, j, none⟩ = w.cell? ⟨b, j, none⟩ := (dbel1 w o).cell (p := ⟨b, j, none⟩) h
theorem cell_new (w : World) (vs : Array Value) (t : TypeId) (j : Nat) (h : j < vs.size) : (w.alloc (.cells vs t)).cell? ⟨w.heap.size, j, none⟩ = some vs[j] := by
  have := heap_alloc_new w (.cells vs t)
  unfold World.cell?
  simp only [this]
  simp [h]

def fitB (l i n lo hi : Nat) : Bool := decide (i * 2 ^ (n - l) = lo ∧ (i + 1) * 2 ^ (n - l) ≤ hi + 1)
theorem fitB_fits (lo hi n l : Nat) : fitB l (lo / 2 ^ (n - l)) n lo hi = fits lo hi n l := by
  simp [fitB, fits, Bool.decide_and, BEq.beq]

theorem enter_g1 : ∀ args w, (callFunc 96 args).run Tryz.prog w = .ok (.enter 96 args) w := fun args w => by kernel_rfl

set_option maxHeartbeats 1000000 in
theorem great1_any (l i n lo hi b1 b2 b3 : Nat) (w : World) (h1 : l ≤ n) (h2 : n ≤ 8) (h3 : i < 2 ^ l) (k1 : w.cell? ⟨b1, 0, none⟩ = some (.int .i64 n)) (k2 : w.cell? ⟨b2, 0, none⟩ = some (.int .i64 lo)) (k3 : w.cell? ⟨b3, 0, none⟩ = some (.int .i64 hi))
    (l1 : b1 < w.heap.size) (l2 : b2 < w.heap.size) (l3 : b3 < w.heap.size) :
    Calls Tryz.prog 96 (#[.agg #[.int .i64 l, .int .i64 i]] ++ #[.pointer (some ⟨b1, 0, none⟩), .pointer (some ⟨b2, 0, none⟩), .pointer (some ⟨b3, 0, none⟩)]) w fun e w' => e = .returned (.bool (fitB l i n lo hi)) ∧ Below w.heap.size w w' := by
  have hc := fun w => cells_yes l i n w h1 h2 h3
  have HC : Hid (∀ w, Calls Tryz.prog 71 #[.agg #[.int .i64 l, .int .i64 i], .int .i64 n] w fun e w' => e = .returned (.tuple #[.int .i64 ((i * 2 ^ (n - l) : Nat) : Int), .int .i64 (((i + 1) * 2 ^ (n - l) : Nat) - 1 : Int)]) ∧ Below w.heap.size w w') := hc
  obtain ⟨A, hA⟩ : ∃ A, A = i * 2 ^ (n - l) := ⟨_, rfl⟩
  obtain ⟨B, hB⟩ : ∃ B, B = (i + 1) * 2 ^ (n - l) := ⟨_, rfl⟩
  have HF : Hid (fitB l i n lo hi = decide (A = lo ∧ B ≤ hi + 1)) := (by rw [hA, hB]; rfl : fitB l i n lo hi = decide (A = lo ∧ B ≤ hi + 1))
  rw [← hA, ← hB] at HC
  clear hA hB hc
  by_cases hx : A = lo
  all_goals
    go_enter Tryz.func96, Tryz.ntmps96
    go_wp2_with fail
    refine (HC.out _).mono ?_
    rintro e w' ⟨rfl, hb⟩
    have HB : Hid _ := (dbel1 w _).trans (hb.mono (by simp))
    have c1 := (HB.out.cell (p := ⟨b1, 0, none⟩) l1).trans k1
    have c2 := (HB.out.cell (p := ⟨b2, 0, none⟩) l2).trans k2
    have c3 := (HB.out.cell (p := ⟨b3, 0, none⟩) l3).trans k3
    clear hb
    go_wp2
    go_ret
    refine ⟨?_, HB.out⟩
    rw [HF.out]
    refine ret_b ?_
    rw [Bool.eq_iff_iff]
    simp <;> omega

set_option maxHeartbeats 1000000 in
theorem indexI_any (f : Nat) (cb : Array Value) (v : Value) (xs : List Iv) (p : Nat → Bool) (r : Nat) (w : World) (eg : ∀ args w, (callFunc f args).run Tryz.prog w = .ok (.enter f args) w) (hl : xs.length ≤ 1000) (h : IvIn w v xs)
    (hr : r < xs.length) (hpr : p r = true) (hmin : ∀ j, j < r → p j = false)
    (hf : ∀ (W : World) (i : Nat), i < xs.length → Below w.heap.size w W → Calls Tryz.prog f (#[.agg #[.int .i64 (xs.getD i iv0).lev, .int .i64 (xs.getD i iv0).idx]] ++ cb) W fun e w' => e = .returned (.bool (p i)) ∧ Below W.heap.size W w') :
    Calls Tryz.prog 95 #[v, .func (.func f) #[] cb] w fun e w' => e = .returned (.int .i64 r) ∧ Below w.heap.size w w' := by
  have HF : Hid _ := hf
  obtain ⟨a, c, rfl, hh⟩ := h.shape
  obtain ⟨g, rfl, hg, hcap, hj⟩ := hh (by omega)
  have HJ : Hid _ := hj
  have HM : Hid (p r = true ∧ ∀ j, j < r → p j = false) := ⟨hpr, hmin⟩
  clear hf h hh hj hpr hmin
  go_enter Tryz.func95, Tryz.ntmps95
  go_wp2
  go_loopg [8] xs.length (fun kx s8 wr => ∃ k : Nat, s8 = .int .i64 k ∧ k ≤ r ∧ kx = xs.length - k ∧ Hid (Below w.heap.size w wr))
  case atStart => exact ⟨0, rfl, Nat.zero_le _, rfl, (Below.refl _ _ : Below w.heap.size w w)⟩
  case round =>
    obtain ⟨k, rfl, hk, rfl, HB⟩ := hrel
    have hlt : k < xs.length := by omega
    obtain ⟨c0, c1⟩ := HJ.out k hlt
    have e : ∀ o, wr.cell? ⟨g, o, none⟩ = w.cell? ⟨g, o, none⟩ := fun o => HB.out.cell (p := ⟨g, o, none⟩) hg
    rw [← e] at c0 c1
    have hc := HF.out wr k hlt HB.out
    generalize xs.getD k iv0 = x at c0 c1 hc
    clear e
    by_cases hkr : k = r
    · subst hkr
      rw [HM.out.1] at hc
      go_wp2_with fail
      refine Calls.mono hc ?_
      rintro e w' ⟨rfl, hbw⟩
      have HB2 : Hid (Below w.heap.size w w') := HB.out.trans (hbw.mono HB.out.size)
      clear hc hbw
      go_wp2
      go_ret
      exact ⟨rfl, HB2.out⟩
    · rw [HM.out.2 k (by omega)] at hc
      go_wp2_with fail
      refine Calls.mono hc ?_
      rintro e w' ⟨rfl, hbw⟩
      have HB2 : Hid (Below w.heap.size w w') := HB.out.trans (hbw.mono HB.out.size)
      clear hc hbw c0 c1
      go_wp2
      go_roundg (xs.length - (k + 1))
      case measure => omega
      case rel => exact ⟨k + 1, by go_num, by omega, rfl, HB2⟩

theorem chain_fit (lo hi n j : Nat) (hj : j ≤ n) (h : lo < 2 ^ n) : lo / 2 ^ (n - j) < 2 ^ j := by
  rw [Nat.div_lt_iff_lt_mul (pow_pos2 _), ← pow_split hj]; exact h

set_option maxRecDepth 100000 in
set_option maxHeartbeats 1000000 in
theorem greatest_any (lo hi n : Nat) (w : World) (hn : n ≤ 8) (h : lo ≤ hi) (hh : hi < 2 ^ n) :
    Calls Tryz.prog 70 #[.int .i64 lo, .int .i64 hi, .int .i64 n] w fun e w' => e = .returned (.agg #[.int .i64 (nx lo hi n).lev, .int .i64 (nx lo hi n).idx]) ∧ Below w.heap.size w w' := by
  have hlo : lo < 2 ^ n := by omega
  have hlv := lv_le lo hi n
  obtain ⟨w4, hw4⟩ : ∃ w4, w4 = (((w.alloc (.cells #[.int .i64 lo] 3)).alloc (.cells #[.int .i64 hi] 3)).alloc (.cells #[.int .i64 n] 3)).alloc (.cells #[.int .i64 0, .int .i64 0] 23) := ⟨_, rfl⟩
  have hsz : w4.heap.size = w.heap.size + 4 := by rw [hw4]; simp
  have b4 : Below w.heap.size w w4 := by rw [hw4]; exact (((dbel1 w _).alloc (by simp) _).alloc (by simp; omega) _).alloc (by simp; omega) _
  have d0 : w4.cell? ⟨w.heap.size, 0, none⟩ = some (.int .i64 lo) := by rw [hw4, cell_old _ _ _ _ (by simp; omega), cell_old _ _ _ _ (by simp; omega), cell_old _ _ _ _ (by simp)]; exact cell_new w #[.int .i64 lo] 3 0 (by simp)
  have d1 : w4.cell? ⟨w.heap.size + 1, 0, none⟩ = some (.int .i64 hi) := by rw [hw4, cell_old _ _ _ _ (by simp), cell_old _ _ _ _ (by simp)]; simp
  have d2 : w4.cell? ⟨w.heap.size + 2, 0, none⟩ = some (.int .i64 n) := by rw [hw4, cell_old _ _ _ _ (by simp)]; have := cell_new ((w.alloc (.cells #[.int .i64 lo] 3)).alloc (.cells #[.int .i64 hi] 3)) #[.int .i64 n] 3 0 (by simp); simpa using this
  have d3 : w4.heap[w.heap.size + 3]? = some (.cells #[.int .i64 0, .int .i64 0] 23 (0, 0)) := by
    have := heap_alloc_new (((w.alloc (.cells #[.int .i64 lo] 3)).alloc (.cells #[.int .i64 hi] 3)).alloc (.cells #[.int .i64 n] 3)) (.cells #[.int .i64 0, .int .i64 0] 23)
    rw [hw4]; simpa using this
  have H3 : Hid (w4.heap[w.heap.size + 3]? = some (.cells #[.int .i64 0, .int .i64 0] 23 (0, 0))) := d3
  clear d3
  have hc := chain_yes lo n w4 hn hlo
  have hmf : ∀ (fn : Fn) (first cap : Array Value) (w : World), (Instr.makeFunc fn first cap).run Tryz.prog w = .ok (.func fn first cap) w := fun _ _ _ _ => rfl
  have HC : Hid _ := hc
  have H4 : Hid (Below w.heap.size w w4) := b4
  have HS : Hid (w4.heap.size = w.heap.size + 4) := hsz
  have HD : Hid (w4.cell? ⟨w.heap.size, 0, none⟩ = some (.int .i64 lo) ∧ w4.cell? ⟨w.heap.size + 1, 0, none⟩ = some (.int .i64 hi) ∧ w4.cell? ⟨w.heap.size + 2, 0, none⟩ = some (.int .i64 n)) := ⟨d0, d1, d2⟩
  have HH : Hid (lo ≤ hi ∧ hi < 2 ^ n) := ⟨h, hh⟩
  clear hc b4 hsz d0 d1 d2 h hh hlo
  go_enter Tryz.func70, Tryz.ntmps70
  go_wp2_with fail
  rw [← hw4]
  refine Calls.mono HC.out ?_
  rintro e w5 ⟨v, rfl, hr⟩
  have hin := hr.isIn
  obtain ⟨a, cp, rfl, hsh⟩ := hin.shape
  obtain ⟨g, rfl, hg, hcap, hj⟩ := hsh (by rw [chain_len]; omega)
  have hlen := chain_len lo n
  have hix := indexI_any 96 #[.pointer (some ⟨w.heap.size + 2, 0, none⟩), .pointer (some ⟨w.heap.size, 0, none⟩), .pointer (some ⟨w.heap.size + 1, 0, none⟩)] _ (chain lo n) (fun j => fits lo hi n j) (lv lo hi n) w5 enter_g1 (by omega) hin (by omega) (lv_fits lo hi n HH.out.1) (fun j hj => lv_min lo hi n j hj)
    (fun W i hi' hW => by
      have e := chain_get lo n i (by omega)
      rw [e]
      have bb : Below w4.heap.size w4 W := hr.bel.trans (hW.mono hr.bel.size)
      have q0 := (bb.cell (p := ⟨w.heap.size, 0, none⟩) (by rw [HS.out]; simp)).trans HD.out.1
      have q1 := (bb.cell (p := ⟨w.heap.size + 1, 0, none⟩) (by rw [HS.out]; simp)).trans HD.out.2.1
      have q2 := (bb.cell (p := ⟨w.heap.size + 2, 0, none⟩) (by rw [HS.out]; simp)).trans HD.out.2.2
      have sz := bb.size
      have hs4 := HS.out
      rw [← fitB_fits]
      exact great1_any i (lo / 2 ^ (n - i)) n lo hi _ _ _ W (by omega) hn (chain_fit lo hi n i (by omega) (by have := HH.out; omega)) q2 q0 q1 (by omega) (by omega) (by omega))
  rw [hlen] at hix hcap ⊢
  have HIX : Hid _ := hix
  obtain ⟨c0, c1⟩ := hj (lv lo hi n) (by omega)
  rw [chain_get lo n _ hlv] at c0 c1
  have HB5 : Hid (Below w.heap.size w w5) := H4.out.trans (hr.bel.mono H4.out.size)
  have HNX : Hid ((nx lo hi n).lev = ((lv lo hi n : Nat) : Int) ∧ (nx lo hi n).idx = ((lo / 2 ^ (n - lv lo hi n) : Nat) : Int)) := ⟨rfl, rfl⟩
  have hsz5 : w4.heap.size ≤ w5.heap.size := hr.bel.size
  have H35 : Hid (w5.heap[w.heap.size + 3]? = some (.cells #[.int .i64 0, .int .i64 0] 23 (0, 0))) := (hr.bel.block _ (by rw [HS.out]; omega)).trans H3.out
  have HSZ5 : Hid (w.heap.size + 4 ≤ w5.heap.size) := (by have := HS.out; omega : w.heap.size + 4 ≤ w5.heap.size)
  dsimp only at c0 c1
  generalize lo / 2 ^ (n - lv lo hi n) = q at c1 HNX
  generalize lv lo hi n = r at *
  clear hix hin hsh hj hr hsz5 hlen
  go_wp2_with fail
  refine Calls.mono HIX.out ?_
  rintro e w6 ⟨rfl, hb6⟩
  have e0 := (hb6.cell (p := ⟨g, r * 2, none⟩) hg).trans c0
  have e1 := (hb6.cell (p := ⟨g, r * 2 + 1, none⟩) hg).trans c1
  have HB6 : Hid (Below w.heap.size w w6) := HB5.out.trans (hb6.mono HB5.out.size)
  have hz6 : w.heap.size + 4 ≤ w6.heap.size := Nat.le_trans HSZ5.out hb6.size
  have h36 := (hb6.block (w.heap.size + 3) (by have := HSZ5.out; omega)).trans H35.out
  have z0 : w6.cell? ⟨w.heap.size + 3, 0, none⟩ = some (.int .i64 0) := by simp [World.cell?, h36]
  have z1 : w6.cell? ⟨w.heap.size + 3, 1, none⟩ = some (.int .i64 0) := by simp [World.cell?, h36]
  have z2 : ∀ o, w6.frozen? ⟨w.heap.size + 3, o, none⟩ = false := fun o => by simp [World.frozen?, h36]
  clear c0 c1 hb6 h36
  go_wp2
  refine bodyPost_ret (v := .agg #[.int .i64 r, .int .i64 q]) (by simp [results, Tryz.results70, go_sem, *]) rfl ⟨?_, ?_⟩
  · rw [HNX.out.1, HNX.out.2]
  · exact (HB6.out.setCell (by simp; omega) _).setCell (by simp; omega) _
end Go.Proofs.YtkkbhkpeglcodaaGreatDoor
