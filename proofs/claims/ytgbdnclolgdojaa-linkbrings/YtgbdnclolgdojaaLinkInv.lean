/- Two ends that are told the truth: what came is a beginning of what was pushed. No program in sight. -/
import Derived.Test.YtgbdnclolgdojaaLinkTwo
namespace Go.Proofs.Ytgbdnclolgdojaa
open Go.RowKit
set_option linter.unusedVariables false

/-- x has pushed X, y has pushed Y. -/
structure Inv (x y : Lk) (X Y : List ByteArray) : Prop where
  xq : x.q = X.drop x.acked.toNat
  x0 : 0 ≤ x.acked
  x1 : x.acked ≤ y.came
  x2 : y.came ≤ X.length
  yq : y.q = Y.drop y.acked.toNat
  y0 : 0 ≤ y.acked
  y1 : y.acked ≤ x.came
  y2 : x.came ≤ Y.length
theorem Inv.swap {x y : Lk} {X Y : List ByteArray} (h : Inv x y X Y) : Inv y x Y X := ⟨h.yq, h.y0, h.y1, h.y2, h.xq, h.x0, h.x1, h.x2⟩
theorem inv0 : Inv lk0 lk0 [] [] := ⟨rfl, by decide, by decide, by decide, rfl, by decide, by decide, by decide⟩
theorem Inv.xlen {x y : Lk} {X Y : List ByteArray} (h : Inv x y X Y) : (x.q.length : Int) = X.length - x.acked := by
  have h0 := h.x0; have h1 := h.x1; have h2 := h.x2
  rw [h.xq, List.length_drop]; omega
theorem Inv.push {x y : Lk} {X Y : List ByteArray} (h : Inv x y X Y) (s : ByteArray) : Inv { x with q := x.q ++ [s] } y (X ++ [s]) Y := by
  have h0 := h.x0; have h1 := h.x1; have h2 := h.x2
  refine ⟨?_, h.x0, h.x1, by simp; omega, h.yq, h.y0, h.y1, h.y2⟩
  show x.q ++ [s] = (X ++ [s]).drop x.acked.toNat
  rw [h.xq, List.drop_append_of_le_length (by omega)]
theorem Inv.owes {x y : Lk} {X Y : List ByteArray} (h : Inv x y X Y) (b : Bool) : Inv { x with owes := b } y X Y := ⟨h.xq, h.x0, h.x1, h.x2, h.yq, h.y0, h.y1, h.y2⟩
/-- A packet that the side that pushed X made when cm had come to it, or fewer. -/
structure Tru (X : List ByteArray) (cm n c : Int) (s : ByteArray) : Prop where
  n : (n = -1 ∧ s = ByteArray.empty) ∨ (0 ≤ n ∧ n < X.length ∧ s = tx X n.toNat)
  c0 : 0 ≤ c
  c1 : c ≤ cm
theorem Tru.up {X X' : List ByteArray} {cm cm' n c : Int} {s : ByteArray} (h : Tru X cm n c s) (hX : ∃ R, X' = X ++ R) (hc : cm ≤ cm') : Tru X' cm' n c s := by
  obtain ⟨R, rfl⟩ := hX
  refine ⟨?_, h.c0, Int.le_trans h.c1 hc⟩
  rcases h.n with h1 | ⟨h1, h2, h3⟩
  · exact .inl h1
  · refine .inr ⟨h1, by simp; omega, ?_⟩
    rw [h3]; unfold tx
    rw [List.getD_eq_getElem?_getD, List.getD_eq_getElem?_getD, List.getElem?_append_left (by omega)]
theorem tx_drop (X : List ByteArray) (a i : Nat) : tx (X.drop a) i = tx X (a + i) := by simp [tx, List.getD]
/-- All that x sends is true. -/
theorem out_true {x y : Lk} {X Y : List ByteArray} (h : Inv x y X Y) (j : Nat) (hj : j < x.out.length) : ∃ n s, x.out.getD j [] = pkB n x.came s ∧ Tru X x.came n x.came s ∧ (x.q ≠ [] → n = x.acked + j) ∧ (x.q = [] → n = -1) := by
  have h0 := h.x0; have h1 := h.x1; have h2 := h.x2; have hy1 := h.y1; have hy0 := h.y0
  have hl := h.xlen
  unfold Lk.out at hj ⊢
  by_cases hq : x.q = []
  · rw [if_pos hq] at hj ⊢
    by_cases ho : x.owes = true
    · rw [if_pos ho] at hj ⊢
      obtain rfl : j = 0 := by simp at hj; omega
      exact ⟨-1, ByteArray.empty, rfl, ⟨.inl ⟨rfl, rfl⟩, by omega, Int.le_refl _⟩, fun h => absurd hq h, fun _ => rfl⟩
    · rw [if_neg ho] at hj; simp at hj
  · rw [if_neg hq] at hj ⊢
    have hj' : j < min x.q.length 8 := by simpa [Lk.fst] using hj
    refine ⟨x.acked + j, tx x.q j, ?_, ⟨.inr ⟨by omega, by omega, ?_⟩, by omega, Int.le_refl _⟩, fun _ => rfl, fun h => absurd h hq⟩
    · simp [Lk.fst, List.getD, hj']
    · rw [h.xq, tx_drop]; congr 1; omega
/-- A true packet keeps both ends right. -/
theorem Inv.got {x y : Lk} {X Y : List ByteArray} {n c : Int} {s : ByteArray} (h : Inv x y X Y) (ht : Tru X x.came n c s) : Inv x (y.got n c) X Y := by
  have h0 := h.x0; have h1 := h.x1; have h2 := h.x2; have hy1 := h.y1; have hy0 := h.y0; have hy2 := h.y2
  have hc0 := ht.c0; have hc1 := ht.c1
  have hl := h.swap.xlen
  have hcf : Inv x (y.conf c) X Y := by
    unfold Lk.conf
    split
    · rename_i hh
      refine ⟨h.xq, h.x0, h.x1, h.x2, ?_, by show 0 ≤ c; omega, by show c ≤ x.came; omega, h.y2⟩
      show y.q.drop (c - y.acked).toNat = Y.drop c.toNat
      rw [h.yq, List.drop_drop]; congr 1; omega
    · exact h
  have hcm : (y.conf c).came = y.came := conf_came y c
  unfold Lk.got
  split
  · exact hcf
  · rename_i hn
    have hn' : 0 ≤ n ∧ n < X.length := by
      rcases ht.n with h3 | h3
      · exact absurd h3.1 hn
      · exact ⟨h3.1, h3.2.1⟩
    split
    · rename_i he
      exact ⟨hcf.xq, hcf.x0, by show x.acked ≤ y.came + 1; omega, by show y.came + 1 ≤ _; omega, hcf.yq, hcf.y0, hcf.y1, hcf.y2⟩
    · exact ⟨hcf.xq, hcf.x0, hcf.x1, hcf.x2, hcf.yq, hcf.y0, hcf.y1, hcf.y2⟩
theorem tru_ok {X : List ByteArray} {cm n c : Int} {s : ByteArray} (h : Tru X cm n c s) (hX : (X.length : Int) ≤ 1000000000000) (hm : cm ≤ 1000000000000) (ht : ∀ t ∈ X, t.size ≤ 1970) : PkOk n c s := by
  have h0 := h.c0; have h1 := h.c1
  rcases h.n with ⟨rfl, rfl⟩ | ⟨h2, h3, h4⟩
  · exact ⟨by omega, by omega, h0, by omega, by decide, fun _ => rfl⟩
  · refine ⟨by omega, by omega, h0, by omega, ?_, fun e => by omega⟩
    have : s ∈ X := by rw [h4]; unfold tx; rw [List.getD_eq_getElem?_getD, List.getElem?_eq_getElem (by omega)]; simp
    have := ht s this
    omega
theorem got_acked {y : Lk} {n c : Int} (h0 : y.acked < c) (h1 : c - y.acked ≤ y.q.length) : (y.got n c).acked = c := by
  have : (y.conf c).acked = c := by unfold Lk.conf; rw [if_pos ⟨by omega, h1⟩]
  unfold Lk.got; split; exact this; split <;> exact this
theorem got_acked_same {y : Lk} {n c : Int} (h0 : ¬ (0 < c - y.acked ∧ c - y.acked ≤ y.q.length)) : (y.got n c).acked = y.acked := by
  have : (y.conf c) = y := by unfold Lk.conf; rw [if_neg h0]
  unfold Lk.got; rw [this]; split; rfl; split <;> rfl
theorem got_came (y : Lk) (n c : Int) : (y.got n c).came = if n ≠ -1 ∧ n = y.came then y.came + 1 else y.came := by
  have hc := conf_came y c
  unfold Lk.got
  by_cases h1 : n = -1
  · rw [if_pos h1, if_neg (fun h => h.1 h1)]; exact hc
  · rw [if_neg h1]
    by_cases h2 : n = y.came
    · rw [if_pos h2, if_pos ⟨h1, h2⟩]
    · rw [if_neg h2, if_neg (fun h => h2 h.2)]; exact hc
theorem got_owes {y : Lk} {n c : Int} (h : n ≠ -1) : (y.got n c).owes = true := by
  unfold Lk.got; rw [if_neg h]; split <;> rfl
end Go.Proofs.Ytgbdnclolgdojaa
