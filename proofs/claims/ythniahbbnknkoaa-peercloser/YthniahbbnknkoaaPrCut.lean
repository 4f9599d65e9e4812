/- wigwaglaw09.Cut: a peer that knows at most eight behind it. -/
import Derived.Test.YthniahbbnknkoaaPrInts
namespace Go.Proofs.Ythniahbbnknkoaa
open Go.ChangeShapes Go.WideShapes Go.ChangeAt Go.RowKit Go.Deep
set_option linter.unusedVariables false

/-- The cells of a peer's block, behind an append to a row made later. -/
theorem peer_block {W w1 : World} {g : Nat} {c0 c1 c2 : Value} {row : Option Nat} (hc : W.heap[g]? = some (.cells #[c0, c1, c2] 30 (0, 0))) (hg : W.grownBy w1 row) (hr : row ≠ some g) :
    w1.cell? ⟨g, 0, none⟩ = some c0 ∧ w1.cell? ⟨g, 1, none⟩ = some c1 ∧ w1.cell? ⟨g, 2, none⟩ = some c2 ∧ (∀ o, w1.frozen? ⟨g, o, none⟩ = false) ∧ g < w1.heap.size := by
  have hlt : g < W.heap.size := by
    rcases Nat.lt_or_ge g W.heap.size with q | q
    · exact q
    · rw [Array.getElem?_eq_none q] at hc; cases hc
  have e : w1.heap[g]? = some (.cells #[c0, c1, c2] 30 (0, 0)) := (hg.block g hlt (Ne.symm hr)).trans hc
  refine ⟨?_, ?_, ?_, fun o => ?_, ?_⟩
  · simp [World.cell?, e]
  · simp [World.cell?, e]
  · simp [World.cell?, e]
  · simp [World.frozen?, e]
  · rcases Nat.lt_or_ge g w1.heap.size with q | q
    · exact q
    · rw [Array.getElem?_eq_none q] at e; cases e

set_option maxHeartbeats 2000000 in
theorem cut9_any (id pred : Int) (a : Option Addr) (len cap : Nat) (l : List Int) (w : World) (h : PeIn w id pred a len cap l) :
    Calls Try.prog 12 #[.agg #[.int .u64 id, .int .i64 pred, .slice a len cap]] w fun e w' => ∃ a' c', e = .returned (.agg #[.int .u64 id, .int .i64 pred, .slice a' (min len 8) c']) ∧ PeIn w' id pred a' (min len 8) c' (l.take 8) ∧ (∀ x, a' = some x → w.heap.size ≤ x.block) ∧ Below w.heap.size w w' := by
  obtain ⟨i0, hi, hz0, hz1, hz2⟩ := info_of Try.infoInt
  obtain ⟨m, hm⟩ : ∃ m, m = min len 8 := ⟨_, rfl⟩
  have hml : m ≤ len := by omega
  have ht : l.take 8 = l.take m := by
    rw [hm]
    by_cases q : len ≤ 8
    · rw [List.take_of_length_le (by rw [h.row.1]; omega), List.take_of_length_le (by rw [h.row.1]; omega)]
    · congr 1; omega
  rw [ht, ← hm]
  have HP : Hid (PeIn w id pred a len cap l) := h
  have HT : Hid (InIn w a m (l.take m)) := h.row.take m hml
  have hcap := h.hcap
  have hmost := h.hmost
  obtain ⟨W0, hW0⟩ : ∃ W0, W0 = ((w.alloc (.cells #[.int .u64 id, .int .i64 pred, .slice a m cap] 30)).alloc (.cells #[.int .u64 0, .int .i64 0, .slice none 0 0] 30)).alloc (.cells #[] 3) := ⟨_, rfl⟩
  have b0 : Hid (Below w.heap.size w W0 ∧ W0.heap.size = w.heap.size + 3) := by
    refine ⟨?_, by rw [hW0]; simp⟩
    rw [hW0]; exact ((below_one _ _).trans ((below_one _ _).mono (by simp))).trans ((below_one _ _).mono (by simp; omega))
  have h0 : Hid (W0.heap[w.heap.size]? = some (.cells #[.int .u64 id, .int .i64 pred, .slice a m cap] 30 (0, 0)) ∧ W0.heap[w.heap.size + 1]? = some (.cells #[.int .u64 0, .int .i64 0, .slice none 0 0] 30 (0, 0))) := by
    rw [hW0]
    refine ⟨?_, ?_⟩
    · rw [Below.heap_alloc _ _ _ (by simp; omega), Below.heap_alloc _ _ _ (by simp)]
      exact heap_alloc_new w _
    · rw [Below.heap_alloc _ _ _ (by simp)]
      simpa using heap_alloc_new (w.alloc (.cells #[.int .u64 id, .int .i64 pred, .slice a m cap] 30)) (.cells #[.int .u64 0, .int .i64 0, .slice none 0 0] 30)
  have HS : Hid (Src Try.prog 1 28 (.slice a m cap) m ((l.take m).map cellI) W0) :=
    src_ints (HT.out.below (Nat.le_refl _) b0.out.1) (fun e => by have := h.hnil e; omega)
  have HO : Hid (W0.ownsRow (w.heap.size + 2) 3 1 (.slice (some ⟨w.heap.size + 2, 0, none⟩) 0 0) 0 []) := by
    refine ⟨rfl, .inr ⟨w.heap.size + 2, 0, #[], rfl, Nat.le_refl _, ?_, Nat.le_refl _, by decide, rfl, rfl⟩⟩
    rw [hW0]
    simpa using heap_alloc_new ((w.alloc (.cells #[.int .u64 id, .int .i64 pred, .slice a m cap] 30)).alloc (.cells #[.int .u64 0, .int .i64 0, .slice none 0 0] 30)) (.cells #[] 3)
  have hm8 : m ≤ 8 := by omega
  have HM : Hid (m = min len 8) := hm
  clear h hm ht HT
  by_cases q : len ≤ 8
  · obtain rfl : len = m := by have := HM.out; omega
    go_enter Try.func12, Try.ntmps12
    go_wp2_with (at_builtin; rw [← hW0]; refine wpList_own_append _ rfl _ _ 28 28 rfl (w.heap.size + 2) 3 i0 _ 8 Try.underlying28 hi hz0 hz1 hz2 rfl _ _ _ rfl HO.out _ len _ rfl HS.out ?c3 ?c4 ?c5 ?_)
    case c3 => unfold maxLen; omega
    case c4 => omega
    case c5 => have := b0.out.2; omega
    intro v' w1 ha
    rw [← hW0] at ha
    have HA : Hid _ := ha
    obtain ⟨a', c', hv'⟩ := ha.shape
    subst hv'
    obtain ⟨x0, x1, x2, x3, x4⟩ := peer_block h0.out.1 ha.grown (by simp [Value.ownBlock]; omega)
    obtain ⟨y0, y1, y2, y3, y4⟩ := peer_block h0.out.2 ha.grown (by simp [Value.ownBlock])
    clear ha
    go_wp2
    refine bodyPost_ret (v := .agg #[.int .u64 id, .int .i64 pred, .slice a' len c']) (by simp [results, Try.results12, go_sem, *]) rfl ⟨a', c', by simp, ?_, fun x hx => by have := own_new HA.out.row x hx; omega, ?_⟩
    · have hr := (((ownsRow_setCell_below (ownsRow_setCell_below (ownsRow_setCell_below (ownsRow_setCell_below (show w1.ownsRow (w.heap.size + 2) 3 1 (.slice a' len c') len ((l.take len).map cellI) by simpa using HA.out.row) (a := ⟨w.heap.size, 2, none⟩) (by simp) (.slice a' len c')) (a := ⟨w.heap.size + 1, 0, none⟩) (by simp) (.int .u64 id)) (a := ⟨w.heap.size + 1, 1, none⟩) (by simp) (.int .i64 pred)) (a := ⟨w.heap.size + 1, 2, none⟩) (by simp) (.slice a' len c'))))
      have hk := own_caps hr
      refine ⟨HP.out.hid, HP.out.hpred, in_of_own hr (fun x hx => ints_ok HP.out.row x (List.mem_of_mem_take hx)) (by omega), hk.1, hk.2, fun e => ?_⟩
      subst e
      rcases hr.2 with ⟨_, e⟩ | ⟨g, cap, cur, hv, _⟩
      · exact e
      · cases hv
    · have hg := HA.out.grown
      have hb : Below w.heap.size w w1 := b0.out.1.trans ⟨hg.os, hg.tape, hg.output, hg.size, fun k hk => hg.block k (by have := b0.out.2; omega) (by simp [Value.ownBlock]; omega)⟩
      exact (((hb.setCell (by simp) _).setCell (by simp) _).setCell (by simp) _).setCell (by simp) _
  · obtain rfl : m = 8 := by have := HM.out; omega
    have hc2 : 8 ≤ cap := by omega
    have hc3 : 8 < len := by omega
    go_enter Try.func12, Try.ntmps12
    go_wp2_with (at_builtin; rw [← hW0]; refine wpList_own_append _ rfl _ _ 28 28 rfl (w.heap.size + 2) 3 i0 _ 8 Try.underlying28 hi hz0 hz1 hz2 rfl _ _ _ rfl HO.out _ 8 _ rfl HS.out ?c3 ?c4 ?c5 ?_)
    case c3 => unfold maxLen; omega
    case c4 => omega
    case c5 => have := b0.out.2; omega
    intro v' w1 ha
    rw [← hW0] at ha
    have HA : Hid _ := ha
    obtain ⟨a', c', hv'⟩ := ha.shape
    subst hv'
    obtain ⟨x0, x1, x2, x3, x4⟩ := peer_block h0.out.1 ha.grown (by simp [Value.ownBlock]; omega)
    obtain ⟨y0, y1, y2, y3, y4⟩ := peer_block h0.out.2 ha.grown (by simp [Value.ownBlock])
    clear ha
    go_wp2
    refine bodyPost_ret (v := .agg #[.int .u64 id, .int .i64 pred, .slice a' 8 c']) (by simp [results, Try.results12, go_sem, *]) rfl ⟨a', c', by simp, ?_, fun x hx => by have := own_new HA.out.row x hx; omega, ?_⟩
    · have hr := (((ownsRow_setCell_below (ownsRow_setCell_below (ownsRow_setCell_below (ownsRow_setCell_below (show w1.ownsRow (w.heap.size + 2) 3 1 (.slice a' 8 c') 8 ((l.take 8).map cellI) by simpa using HA.out.row) (a := ⟨w.heap.size, 2, none⟩) (by simp) (.slice a' 8 c')) (a := ⟨w.heap.size + 1, 0, none⟩) (by simp) (.int .u64 id)) (a := ⟨w.heap.size + 1, 1, none⟩) (by simp) (.int .i64 pred)) (a := ⟨w.heap.size + 1, 2, none⟩) (by simp) (.slice a' 8 c'))))
      have hk := own_caps hr
      refine ⟨HP.out.hid, HP.out.hpred, in_of_own hr (fun x hx => ints_ok HP.out.row x (List.mem_of_mem_take hx)) (by omega), hk.1, hk.2, fun e => ?_⟩
      subst e
      rcases hr.2 with ⟨_, e⟩ | ⟨g, cap, cur, hv, _⟩
      · exact e
      · cases hv
    · have hg := HA.out.grown
      have hb : Below w.heap.size w w1 := b0.out.1.trans ⟨hg.os, hg.tape, hg.output, hg.size, fun k hk => hg.block k (by have := b0.out.2; omega) (by simp [Value.ownBlock]; omega)⟩
      exact (((hb.setCell (by simp) _).setCell (by simp) _).setCell (by simp) _).setCell (by simp) _
end Go.Proofs.Ythniahbbnknkoaa
