/- slices' choice of a pivot at places, whole. -/
import Derived.Test.YtkkkldglceiiiaaGreatSortPiv
namespace Go.Proofs.YtkkkldglceiiiaaGreat
open Go.ChangeShapes Go.WideShapes Go.ChangeAt Go.RowKit
open Go.Sort (swp ltInt)
set_option linter.unusedVariables false

def hintNo : Sort.Hint → Nat | .unknown => 0 | .increasing => 1 | .decreasing => 2
def hintOf (t : Nat) : Sort.Hint := if t = 0 then .increasing else if t = 12 then .decreasing else .unknown

theorem hint_inc (t : Nat) (h : ((t : Int) == 0) = true) : hintOf t = .increasing := by
  have : t = 0 := by have := eq_of_beq h; omega
  unfold hintOf; rw [if_pos this]
theorem hint_dec (t : Nat) (h : ((t : Int) == 12) = true) : hintOf t = .decreasing := by
  have : t = 12 := by have := eq_of_beq h; omega
  subst this; rfl
theorem hint_unk (t : Nat) (h : ((t : Int) == 0) = false) (h2 : ((t : Int) == 12) = false) : hintOf t = .unknown := by
  have q := ne_of_beq_false h
  have q2 := ne_of_beq_false h2
  unfold hintOf; rw [if_neg (by omega), if_neg (by omega)]
theorem pivot_few (d : Array Int) (a b x t : Nat) (h8 : 8 ≤ b - a) (h50 : ¬ 50 ≤ b - a) (hm : Sort.median ltInt d (a + (b - a) / 4 * 1) (a + (b - a) / 4 * 2) (a + (b - a) / 4 * 3) 0 = (x, t)) :
    Sort.choosePivot ltInt d a b = (x, hintOf t) := by
  unfold Sort.choosePivot
  dsimp only
  rw [if_pos h8, if_neg h50, hm]; rfl
theorem pivot_many (d : Array Int) (a b x1 t1 x2 t2 x3 t3 x t : Nat) (h50 : 50 ≤ b - a) (hm1 : Sort.medianAdjacent ltInt d (a + (b - a) / 4 * 1) 0 = (x1, t1)) (hm2 : Sort.medianAdjacent ltInt d (a + (b - a) / 4 * 2) t1 = (x2, t2))
    (hm3 : Sort.medianAdjacent ltInt d (a + (b - a) / 4 * 3) t2 = (x3, t3)) (hm : Sort.median ltInt d x1 x2 x3 t3 = (x, t)) :
    Sort.choosePivot ltInt d a b = (x, hintOf t) := by
  unfold Sort.choosePivot
  dsimp only
  rw [if_pos (by omega), if_pos h50, hm1]; dsimp only
  rw [hm2]; dsimp only
  rw [hm3]; dsimp only
  rw [hm]; rfl

theorem Row.alloc {w : World} {blk off : Nat} {d : Array Int} (h : Row w blk off d) (o : Obj) : Row (w.alloc o) blk off d := by
  intro j hj
  have hs : blk < w.heap.size := by
    rcases Nat.lt_or_ge blk w.heap.size with q | q
    · exact q
    · have := (h j hj).1; simp [World.cell?, Array.getElem?_eq_none q] at this
  have e : (w.alloc o).heap[blk]? = w.heap[blk]? := Below.heap_alloc w o blk hs
  refine ⟨?_, ?_⟩
  · rw [← (h j hj).1]; simp only [World.cell?, e]
  · rw [← (h j hj).2]; simp only [World.frozen?, e]
theorem cnt_new (w : World) (s : Nat) (t : TypeId) : Cnt (w.alloc (.cells #[.int .i64 s] t)) w.heap.size s :=
  ⟨by simp [World.cell?_alloc_new], by simp [World.frozen?_alloc_new]⟩

theorem pivot_any (blk off cap a b : Nat) (d : Array Int) (w : World) (hR : Row w blk off d) (hab : a + 12 < b) (hb : b ≤ d.size) (hblk : blk < w.heap.size) (hsz : d.size < 4611686018427387904) :
    Calls Tryz.prog 61 #[.slice (some ⟨blk, off, none⟩) d.size cap, .int .i64 a, .int .i64 b] w fun e w' =>
      e = .returned (.tuple #[.int .i64 (Sort.choosePivot ltInt d a b).1, .int .i64 (hintNo (Sort.choosePivot ltInt d a b).2)]) ∧ RK w w' blk ∧ Row w' blk off d := by
  have HR : Hid (Row w blk off d) := hR
  clear hR
  have hp : blk ≠ w.heap.size := by omega
  obtain ⟨i0, hi0⟩ : ∃ i0 : Nat, i0 = a + (b - a) / 4 * 1 := ⟨_, rfl⟩
  obtain ⟨j0, hj0⟩ : ∃ j0 : Nat, j0 = a + (b - a) / 4 * 2 := ⟨_, rfl⟩
  obtain ⟨k0, hk0⟩ : ∃ k0 : Nat, k0 = a + (b - a) / 4 * 3 := ⟨_, rfl⟩
  have bi : 0 < i0 ∧ i0 + 1 < d.size := by omega
  have bj : 0 < j0 ∧ j0 + 1 < d.size := by omega
  have bk : 0 < k0 ∧ k0 + 1 < d.size := by omega
  obtain ⟨bi1, bi2⟩ := bi
  obtain ⟨bj1, bj2⟩ := bj
  obtain ⟨bk1, bk2⟩ := bk
  have HI : Hid (i0 = a + (b - a) / 4 * 1 ∧ j0 = a + (b - a) / 4 * 2 ∧ k0 = a + (b - a) / 4 * 3) := ⟨hi0, hj0, hk0⟩
  clear hi0 hj0 hk0
  by_cases h50 : (50 : Int) ≤ (b : Int) - a
  · go_enter Tryz.func61, Tryz.ntmps61
    go_wp2_with (fail)
    · have q := HI.out
      rw [show (a : Int) + ((b : Int) - a) / 4 = (i0 : Int) by omega, show (a : Int) + ((b : Int) - a) / 4 * 2 = (j0 : Int) by omega, show (a : Int) + ((b : Int) - a) / 4 * 3 = (k0 : Int) by omega]
      clear q
      go_wp2_with (first
        | (go_at_call 83
           refine (median_any blk off cap w.heap.size x1 x2 x3 t3 d _ H3.out.2.2.1 H3.out.2.1 hp hx1 hx2 hx3 (by omega) hsz).mono ?_
           rintro e' w4 ⟨x, t, rfl, hK4, hC4, hE4, hx4, ht4⟩
           have H4 : Hid (RK (w.alloc (.cells #[.int .i64 0] 3)) w4 w.heap.size ∧ Row w4 blk off d ∧ Sort.median ltInt d x1 x2 x3 t3 = (x, t)) := ⟨H3.out.1.trans hK4, H3.out.2.2.1.carry hK4 hp, hE4⟩
           have hc4 : w4.cell? ⟨w.heap.size, 0, none⟩ = some (.int .i64 t) := hC4.1
           clear hK4 hC4 hE4)
        | (go_at_call 82
           have guard := H2
           clear guard
           refine (medadj_any blk off cap w.heap.size k0 t2 d _ H2.out.2.2.1 H2.out.2.1 hp bk1 bk2 (by omega) hsz).mono ?_
           rintro e' w3 ⟨x3, t3, rfl, hK3, hC3, hE3, hx3, ht3⟩
           have H3 : Hid (RK (w.alloc (.cells #[.int .i64 0] 3)) w3 w.heap.size ∧ Cnt w3 w.heap.size t3 ∧ Row w3 blk off d ∧ Sort.medianAdjacent ltInt d k0 t2 = (x3, t3)) := ⟨H2.out.1.trans hK3, hC3, H2.out.2.2.1.carry hK3 hp, hE3⟩
           clear hK3 hC3 hE3)
        | (go_at_call 82
           have guard := H1
           clear guard
           refine (medadj_any blk off cap w.heap.size j0 t1 d _ H1.out.2.2.1 H1.out.2.1 hp bj1 bj2 (by omega) hsz).mono ?_
           rintro e' w2 ⟨x2, t2, rfl, hK2, hC2, hE2, hx2, ht2⟩
           have H2 : Hid (RK (w.alloc (.cells #[.int .i64 0] 3)) w2 w.heap.size ∧ Cnt w2 w.heap.size t2 ∧ Row w2 blk off d ∧ Sort.medianAdjacent ltInt d j0 t1 = (x2, t2)) := ⟨H1.out.1.trans hK2, hC2, H1.out.2.2.1.carry hK2 hp, hE2⟩
           clear hK2 hC2 hE2)
        | (go_at_call 82
           refine (medadj_any blk off cap w.heap.size i0 0 d _ (HR.out.alloc _) (cnt_new w 0 3) hp bi1 bi2 (by omega) hsz).mono ?_
           rintro e' w1 ⟨x1, t1, rfl, hK1, hC1, hE1, hx1, ht1⟩
           have H1 : Hid (RK (w.alloc (.cells #[.int .i64 0] 3)) w1 w.heap.size ∧ Cnt w1 w.heap.size t1 ∧ Row w1 blk off d ∧ Sort.medianAdjacent ltInt d i0 0 = (x1, t1)) := ⟨hK1, hC1, (HR.out.alloc _).carry hK1 hp, hE1⟩
           clear hK1 hC1 hE1))
      all_goals
        have E : Hid (Sort.choosePivot ltInt d a b = (x, hintOf t)) := by
          have q := HI.out
          have g1 := H1.out.2.2.2
          have g2 := H2.out.2.2.2
          have g3 := H3.out.2.2.2
          rw [q.1] at g1; rw [q.2.1] at g2; rw [q.2.2] at g3
          exact pivot_many d a b x1 t1 x2 t2 x3 t3 x t (by omega) g1 g2 g3 H4.out.2.2
        go_ret2
        rw [E.out]
        refine ⟨?_, H4.out.1.fresh _, H4.out.2.1⟩
        first
          | (rw [hint_inc t (by assumption)]; rfl)
          | (rw [hint_dec t (by assumption)]; rfl)
          | (rw [hint_unk t (by assumption) (by assumption)]; rfl)
  · go_enter Tryz.func61, Tryz.ntmps61
    go_wp2_with (fail)
    · have q := HI.out
      rw [show (a : Int) + ((b : Int) - a) / 4 = (i0 : Int) by omega, show (a : Int) + ((b : Int) - a) / 4 * 2 = (j0 : Int) by omega, show (a : Int) + ((b : Int) - a) / 4 * 3 = (k0 : Int) by omega]
      clear q
      go_wp2_with (first
        | (go_at_call 83
           refine (median_any blk off cap w.heap.size i0 j0 k0 0 d _ (HR.out.alloc _) (cnt_new w 0 3) hp (by omega) (by omega) (by omega) (by omega) hsz).mono ?_
           rintro e' w4 ⟨x, t, rfl, hK4, hC4, hE4, hx4, ht4⟩
           have H4 : Hid (RK (w.alloc (.cells #[.int .i64 0] 3)) w4 w.heap.size ∧ Row w4 blk off d ∧ Sort.median ltInt d i0 j0 k0 0 = (x, t)) := ⟨hK4, (HR.out.alloc _).carry hK4 hp, hE4⟩
           have hc4 : w4.cell? ⟨w.heap.size, 0, none⟩ = some (.int .i64 t) := hC4.1
           clear hK4 hC4 hE4))
      all_goals
        have E : Hid (Sort.choosePivot ltInt d a b = (x, hintOf t)) := by
          have q := HI.out
          have g := H4.out.2.2
          rw [q.1, q.2.1, q.2.2] at g
          exact pivot_few d a b x t (by omega) (by omega) g
        go_ret2
        rw [E.out]
        refine ⟨?_, H4.out.1.fresh _, H4.out.2.1⟩
        first
          | (rw [hint_inc t (by assumption)]; rfl)
          | (rw [hint_dec t (by assumption)]; rfl)
          | (rw [hint_unk t (by assumption) (by assumption)]; rfl)
end Go.Proofs.YtkkkldglceiiiaaGreat
