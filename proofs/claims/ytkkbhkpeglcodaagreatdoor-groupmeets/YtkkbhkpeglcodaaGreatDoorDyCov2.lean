/- dyad.Cover, wigwaglaw07.awake. -/
import Derived.Test.YtkkbhkpeglcodaaGreatDoorDyCover
namespace Go.Proofs.YtkkbhkpeglcodaaGreatDoor
open Go.ChangeShapes Go.WideShapes Go.ChangeAt Go.RowKit
set_option linter.unusedVariables false

/-- A block that is new behind the row stays as it is. -/
theorem IvRow.box {T : TypeId} {w0 w W1 W2 : World} {v : Value} {xs : List Iv} (h : IvRow T w0 w v xs) (b : Nat) (hb : w.heap.size ≤ b) (hb1 : b < W1.heap.size) (g1 : W1.grownBy W2 v.ownBlock) : W2.heap[b]? = W1.heap[b]? :=
  g1.block b hb1 (fun e => by have := (h.row.lt b e.symm).2; omega)
theorem box_cell {w : World} {g j : Nat} {vs : Array Value} {t : TypeId} (h : w.heap[g]? = some (.cells vs t (0, 0))) (hj : j < vs.size) : w.cell? ⟨g, j, none⟩ = some vs[j] := by
  simp [World.cell?, h, hj]

set_option maxHeartbeats 1000000 in
theorem cover_no (lo hi L : Int) (w : World) (h : ¬ ((Iv.mk L lo).good L ∧ (Iv.mk L hi).good L)) :
    Calls Tryz.prog 46 #[.int .i64 lo, .int .i64 hi, .int .i64 L] w fun e w' => e = .returned (.slice none 0 0) ∧ Below w.heap.size w w' := by
  have h1 := isCell_any lo L w
  have h2 := fun w => isCell_any hi L w
  by_cases hl : (Iv.mk L lo).good L
  · rw [show (Iv.mk L lo).goodB L = true from decide_eq_true hl] at h1
    rw [show (Iv.mk L hi).goodB L = false from not_good (fun hh => h ⟨hl, hh⟩)] at h2
    have H1 : Hid _ := h1
    have H2 : Hid _ := h2
    clear h1 h2 h hl
    go_enter Tryz.func46, Tryz.ntmps46
    go_wp2_with fail
    refine Calls.mono H1.out ?_
    rintro e w1 ⟨rfl, hb1⟩
    go_wp2_with fail
    refine Calls.mono (H2.out _) ?_
    rintro e w2 ⟨rfl, hb2⟩
    have HB : Hid (Below w.heap.size w w2) := hb1.trans (hb2.mono hb1.size)
    clear hb1 hb2
    go_wp2
    go_ret
    exact ⟨rfl, HB.out⟩
  · rw [show (Iv.mk L lo).goodB L = false from not_good hl] at h1
    have H1 : Hid _ := h1
    clear h1 h2 h hl
    go_enter Tryz.func46, Tryz.ntmps46
    go_wp2_with fail
    refine Calls.mono H1.out ?_
    rintro e w1 ⟨rfl, hb1⟩
    have HB : Hid (Below w.heap.size w w1) := hb1
    clear hb1
    go_wp2
    go_ret
    exact ⟨rfl, HB.out⟩

set_option maxRecDepth 100000 in
set_option maxHeartbeats 1000000 in
theorem cover_yes (lo hi n : Nat) (w : World) (hn : n ≤ 8) (hlo : lo < 2 ^ n) (hhi : hi < 2 ^ n) :
    Calls Tryz.prog 46 #[.int .i64 lo, .int .i64 hi, .int .i64 n] w fun e w' => ∃ v, e = .returned v ∧ IvRow 23 w w' v (cover lo hi n) := by
  obtain ⟨i0, hi0, hz0, hz1, hz2⟩ := dinfo Tryz.infoIv
  have h1 := isCell_any lo n w
  have h2 := fun w => isCell_any hi n w
  rw [show (Iv.mk n lo).goodB n = true from decide_eq_true (Iv.good_of (Nat.le_refl _) hn hlo)] at h1
  rw [show (Iv.mk n hi).goodB n = true from decide_eq_true (Iv.good_of (Nat.le_refl _) hn hhi)] at h2
  have H1 : Hid _ := h1
  have H2 : Hid _ := h2
  have h256 := pow_le_256 hn
  have hlo' : lo ≤ 256 := by omega
  have hhi' : hi ≤ 255 := by omega
  have HH : Hid (lo < 2 ^ n ∧ hi < 2 ^ n) := ⟨hlo, hhi⟩
  clear h1 h2 hlo hhi h256
  go_enter Tryz.func46, Tryz.ntmps46
  go_wp2_with fail
  refine Calls.mono H1.out ?_
  rintro e w1 ⟨rfl, hb1⟩
  go_wp2_with fail
  refine Calls.mono (H2.out _) ?_
  rintro e w2 ⟨rfl, hb2⟩
  have HB : Hid (Below w.heap.size w w2) := hb1.trans (hb2.mono hb1.size)
  clear hb1 hb2
  go_wp2
  go_loopg [0, 7] (hi + 1 - lo) (fun kx s0 s7 wr => ∃ (x : Nat) (done : List Iv), s0 = .int .i64 x ∧ x ≤ 256 ∧ done.length ≤ x ∧ kx = hi + 1 - x ∧ (∃ a cp, s7 = .slice a done.length cp) ∧ Hid (cover lo hi n = done ++ cover x hi n) ∧ Hid (IvRow 23 w wr s7 done))
  case atStart => exact ⟨lo, [], rfl, hlo', Nat.zero_le _, rfl, ⟨_, _, rfl⟩, (rfl : cover lo hi n = [] ++ cover lo hi n), (IvRow.nil _ w w2 HB.out : IvRow 23 w w2 (.slice none 0 0) [])⟩
  case round =>
    obtain ⟨x, done, rfl, hx, hdl, rfl, ⟨a, cp, rfl⟩, HC, R⟩ := hrel
    by_cases hlt : x ≤ hi
    · have hgr := fun W => greatest_any x hi n W hn hlt HH.out.2
      have hnf := nx_fits x hi n hlt
      have hll := lv_le x hi n
      have hstep := cover_step x hi n hlt
      have hcl := fun W => cells_yes (lv x hi n) (x / 2 ^ (n - lv x hi n)) n W hll hn (chain_fit x hi n _ hll (by have := HH.out; omega))
      have hpp := pow_pos2 (n - lv x hi n)
      have hsum : (x / 2 ^ (n - lv x hi n) + 1) * 2 ^ (n - lv x hi n) = x + 2 ^ (n - lv x hi n) := by rw [Nat.add_mul, hnf.1, Nat.one_mul]
      rw [hsum, hnf.1] at hcl
      have hnx1 : (nx x hi n).lev = ((lv x hi n : Nat) : Int) := rfl
      have hnx2 : (nx x hi n).idx = ((x / 2 ^ (n - lv x hi n) : Nat) : Int) := rfl
      have HST0 : Hid (cover lo hi n = (done ++ [nx x hi n]) ++ cover (x + 2 ^ (n - lv x hi n)) hi n) := (by rw [HC.out, hstep]; simp : cover lo hi n = (done ++ [nx x hi n]) ++ cover (x + 2 ^ (n - lv x hi n)) hi n)
      rw [← hnx1, ← hnx2] at hcl
      have hy : x + 2 ^ (n - lv x hi n) ≤ hi + 1 := hnf.2
      clear hnx1 hnx2 hsum hnf hstep
      generalize 2 ^ (n - lv x hi n) = p at hcl hpp HST0 hy
      have HGR : Hid (∀ W, Calls Tryz.prog 70 #[.int .i64 x, .int .i64 hi, .int .i64 n] W fun e w' => e = .returned (.agg #[.int .i64 (nx x hi n).lev, .int .i64 (nx x hi n).idx]) ∧ Below W.heap.size W w') := hgr
      have HCL : Hid _ := hcl
      generalize nx x hi n = y at HGR HCL HST0
      clear hgr hcl hll
      have hle := R.out.le
      go_wp2_with fail
      refine Calls.mono (HGR.out _) ?_
      rintro e w3 ⟨rfl, hb3⟩
      have R3 : Hid (IvRow 23 w w3 (.slice a done.length cp) done) := R.out.carry hb3
      clear hb3
      have hle3 := R3.out.le
      go_wp2_with (at_builtin; refine wpList_own_append2 _ rfl _ _ 101 101 rfl w.heap.size 23 i0 _ 16 Tryz.underlying101 hi0 hz0 hz1 hz2 rfl _ done.length (done.flatMap Iv.cells) rfl (own_carryI R3.out.row (dbel2 _ _ _)) _ 1 y.cells rfl (src_Iv (w3.alloc _) y _ (by simp)) ?c3 ?c4 ?c5 ?_)
      case c3 => unfold maxLen; omega
      case c4 => omega
      case c5 => simp; omega
      intro v' W4 ha
      have hbox := R3.out.box (w3.heap.size) (Nat.le_refl _) (by simp; omega) ha.grown
      rw [Below.heap_alloc _ _ _ (by simp), heap_alloc_new] at hbox
      have m0 := box_cell (j := 0) hbox (by simp)
      have m1 := box_cell (j := 1) hbox (by simp)
      simp at m0 m1
      have mlt := lt_of_block hbox
      have R4 : Hid (IvRow 23 w W4 v' (done ++ [y])) := R3.out.step (dbel2 _ _ _) ha
      obtain ⟨a', cp', hv⟩ := ha.shape
      subst hv
      clear ha hbox
      go_wp2_with fail
      refine Calls.mono (HCL.out _) ?_
      rintro e w5 ⟨rfl, hb5⟩
      have R5 : Hid (IvRow 23 w w5 (.slice a' (done.length + 1) cp') (done ++ [y])) := R4.out.carry hb5
      clear hb5 m0 m1 mlt
      go_wp2
      go_roundg (hi + 1 - (x + p))
      case measure => omega
      case rel => exact ⟨x + p, done ++ [y], by simp, by omega, by simp; omega, rfl, ⟨a', cp', by simp⟩, HST0, R5⟩
    · have HE : Hid (cover lo hi n = done) := (by rw [HC.out, cover_end x hi n (by omega)]; simp : cover lo hi n = done)
      go_wp2
      go_ret
      exact ⟨_, rfl, by rw [HE.out]; exact R.out⟩

theorem cover163 : cover 1 6 3 = [⟨3, 1⟩, ⟨2, 1⟩, ⟨2, 2⟩, ⟨3, 6⟩] := by decide +kernel

end Go.Proofs.YtkkbhkpeglcodaaGreatDoor
