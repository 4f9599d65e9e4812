/- slices' choice of a pivot at places: which place it is, and which hint. -/
import Derived.Test.YtkkkldglceiiiaaGreatSortHeap2
namespace Go.Proofs.YtkkkldglceiiiaaGreat
open Go.ChangeShapes Go.WideShapes Go.ChangeAt Go.RowKit
open Go.Sort (swp ltInt)
set_option linter.unusedVariables false

theorem Cnt.drewN {w : World} {p s : Nat} (h : Cnt w p s) (n : Nat) : Cnt (w.drewN n) p s := h
theorem Cnt.set {w : World} {p s : Nat} (h : Cnt w p s) (t : Nat) : Cnt (w.setCell ⟨p, 0, none⟩ (.int .i64 t)) p t :=
  ⟨World.cell?_setCell_same' _ _ _ (by rw [h.1]; rfl), by rw [World.frozen?_setCell]; exact h.2⟩

theorem order2_at (d : Array Int) (a b s : Nat) : Sort.order2 ltInt d a b s = if ltInt d[b]! d[a]! = true then (b, a, s + 1) else (a, b, s) := rfl

theorem order2_any (blk off cap p a b s : Nat) (d : Array Int) (w : World) (hR : Row w blk off d) (hC : Cnt w p s) (hp : blk ≠ p) (ha : a < d.size) (hb : b < d.size) (hs : s < 1000) (hsz : d.size < 4611686018427387904) :
    Calls Tryz.prog 89 #[.slice (some ⟨blk, off, none⟩) d.size cap, .int .i64 a, .int .i64 b, .pointer (some ⟨p, 0, none⟩)] w fun e w' =>
      ∃ x y t : Nat, e = .returned (.tuple #[.int .i64 x, .int .i64 y]) ∧ RK w w' p ∧ Cnt w' p t ∧ Sort.order2 ltInt d a b s = (x, y, t) ∧ x < d.size ∧ y < d.size ∧ t ≤ s + 1 := by
  obtain ⟨G, hG, hcell, hfro⟩ := hR.fam d.size rfl
  have H : Hid (∀ t, G t = d[t]!) := hG
  have hc := hC.1
  have hf := hC.2
  have HC : Hid (Cnt w p s) := hC
  clear hG hR hC
  go_enter Tryz.func89, Tryz.ntmps89
  go_wp2
  go_quiet (first | (go_at_call 64; refine Calls.quiet_of_same (less_any _ _ _)))
  go_wp2
  · have hl : ltInt (G b) (G a) = true := by assumption
    go_ret2
    refine ⟨b, a, s + 1, rfl, (RK.drewN _ _ _).trans (RK.setCell _ _ _ _), ?_, ?_, hb, ha, Nat.le_refl _⟩
    · exact (HC.out.drewN nq).set (s + 1)
    · rw [order2_at, if_pos (by rw [← H.out, ← H.out]; exact hl)]
  · have hl : ltInt (G b) (G a) = false := by assumption
    go_ret2
    exact ⟨a, b, s, rfl, RK.drewN _ _ _, HC.out.drewN nq, by rw [order2_at, if_neg (by rw [← H.out, ← H.out, hl]; decide)], ha, hb, by omega⟩

theorem median_any (blk off cap p a b c s : Nat) (d : Array Int) (w : World) (hR : Row w blk off d) (hC : Cnt w p s) (hp : blk ≠ p) (ha : a < d.size) (hb : b < d.size) (hc : c < d.size) (hs : s < 900) (hsz : d.size < 4611686018427387904) :
    Calls Tryz.prog 83 #[.slice (some ⟨blk, off, none⟩) d.size cap, .int .i64 a, .int .i64 b, .int .i64 c, .pointer (some ⟨p, 0, none⟩)] w fun e w' =>
      ∃ x t : Nat, e = .returned (.int .i64 x) ∧ RK w w' p ∧ Cnt w' p t ∧ Sort.median ltInt d a b c s = (x, t) ∧ x < d.size ∧ t ≤ s + 3 := by
  have HR : Hid (Row w blk off d ∧ Cnt w p s) := ⟨hR, hC⟩
  clear hR hC
  go_enter Tryz.func83, Tryz.ntmps83
  go_wp2_with (first
    | (go_at_call 89
       have guard := H2
       clear guard
       refine (order2_any blk off cap p x1 x2 t2 d _ H2.out.2.2.1 H2.out.2.1 hp hx1 hx2 (by omega) hsz).mono ?_
       rintro e' w3 ⟨x3, y3, t3, rfl, hK3, hC3, hE3, hx3, hy3, ht3⟩
       have H3 : Hid (RK w w3 p ∧ Cnt w3 p t3 ∧ Sort.order2 ltInt d x1 x2 t2 = (x3, y3, t3)) := ⟨H2.out.1.trans hK3, hC3, hE3⟩
       clear hK3 hC3 hE3)
    | (go_at_call 89
       have guard := H1
       clear guard
       refine (order2_any blk off cap p y1 c t1 d _ H1.out.2.2.1 H1.out.2.1 hp hy1 hc (by omega) hsz).mono ?_
       rintro e' w2 ⟨x2, y2, t2, rfl, hK2, hC2, hE2, hx2, hy2, ht2⟩
       have H2 : Hid (RK w w2 p ∧ Cnt w2 p t2 ∧ Row w2 blk off d ∧ Sort.order2 ltInt d y1 c t1 = (x2, y2, t2)) := ⟨H1.out.1.trans hK2, hC2, H1.out.2.2.1.carry hK2 hp, hE2⟩
       clear hK2 hC2 hE2)
    | (go_at_call 89
       refine (order2_any blk off cap p a b s d _ HR.out.1 HR.out.2 hp ha hb (by omega) hsz).mono ?_
       rintro e' w1 ⟨x1, y1, t1, rfl, hK1, hC1, hE1, hx1, hy1, ht1⟩
       have H1 : Hid (RK w w1 p ∧ Cnt w1 p t1 ∧ Row w1 blk off d ∧ Sort.order2 ltInt d a b s = (x1, y1, t1)) := ⟨hK1, hC1, HR.out.1.carry hK1 hp, hE1⟩
       clear hK1 hC1 hE1))
  go_ret
  exact ⟨y3, t3, rfl, H3.out.1, H3.out.2.1, by
    unfold Sort.median
    rw [H1.out.2.2.2]; dsimp only
    rw [H2.out.2.2.2]; dsimp only
    rw [H3.out.2.2], hy3, by omega⟩

theorem medadj_any (blk off cap p a s : Nat) (d : Array Int) (w : World) (hR : Row w blk off d) (hC : Cnt w p s) (hp : blk ≠ p) (ha1 : 0 < a) (ha : a + 1 < d.size) (hs : s < 900) (hsz : d.size < 4611686018427387904) :
    Calls Tryz.prog 82 #[.slice (some ⟨blk, off, none⟩) d.size cap, .int .i64 a, .pointer (some ⟨p, 0, none⟩)] w fun e w' =>
      ∃ x t : Nat, e = .returned (.int .i64 x) ∧ RK w w' p ∧ Cnt w' p t ∧ Sort.medianAdjacent ltInt d a s = (x, t) ∧ x < d.size ∧ t ≤ s + 3 := by
  have HR : Hid (Row w blk off d ∧ Cnt w p s) := ⟨hR, hC⟩
  clear hR hC
  go_enter Tryz.func82, Tryz.ntmps82
  go_wp2_with (first | (go_at_call 83
                        rw [show (a : Int) - 1 = ((a - 1 : Nat) : Int) by omega, show (a : Int) + 1 = ((a + 1 : Nat) : Int) by omega]
                        refine (median_any blk off cap p (a - 1) a (a + 1) s d _ HR.out.1 HR.out.2 hp (by omega) (by omega) ha hs hsz).mono ?_
                        rintro e' w1 ⟨x1, t1, rfl, hK1, hC1, hE1, hx1, ht1⟩))
  go_ret
  exact ⟨x1, t1, rfl, hK1, hC1, hE1, hx1, ht1⟩
end Go.Proofs.YtkkkldglceiiiaaGreat
