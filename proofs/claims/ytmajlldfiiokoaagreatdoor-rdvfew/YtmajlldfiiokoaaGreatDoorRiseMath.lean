/- Rising lists of numbers, each once; no program in sight. -/
import Derived.Test.YtmajlldfiiokoaaGreatDoorRingMath
import Derived.Test.YtmajlldfiiokoaaGreatDoorJoinSortRow
import Derived.BigQuiet
namespace Go.Proofs.YtmajlldfiiokoaaGreatDoor
open Go.ChangeShapes Go.WideShapes Go.ChangeAt Go.RowKit
set_option linter.unusedVariables false

theorem nodup_len : ∀ (t l : List Int), t.Pairwise (· < ·) → (∀ x, x ∈ t → x ∈ l) → t.length ≤ l.length
  | [], l, _, _ => Nat.zero_le _
  | a :: t, l, hp, hs => by
    have ha : a ∈ l := hs a (by simp)
    have q := nodup_len t (l.erase a) (List.pairwise_cons.1 hp).2 (fun x hx => by
      have hlt := (List.pairwise_cons.1 hp).1 x hx
      exact (List.mem_erase_of_ne (by omega)).2 (hs x (by simp [hx])))
    rw [List.length_erase_of_mem ha] at q
    have : 0 < l.length := List.length_pos_of_mem ha
    simp; omega

theorem rising_same : ∀ (s t : List Int), s.Pairwise (· < ·) → t.Pairwise (· < ·) → (∀ x, x ∈ s ↔ x ∈ t) → s = t
  | [], [], _, _, _ => rfl
  | [], b :: t, _, _, h => by have := (h b).2 (by simp); simp at this
  | a :: s, [], _, _, h => by have := (h a).1 (by simp); simp at this
  | a :: s, b :: t, hs, ht, h => by
    have hs1 := List.pairwise_cons.1 hs
    have ht1 := List.pairwise_cons.1 ht
    have hab : a = b := by
      have h1 := (h a).1 (by simp)
      have h2 := (h b).2 (by simp)
      rcases List.mem_cons.1 h1 with e | m
      · exact e
      · rcases List.mem_cons.1 h2 with e | m2
        · exact e.symm
        · have := ht1.1 a m; have := hs1.1 b m2; omega
    subst hab
    congr 1
    refine rising_same s t hs1.2 ht1.2 (fun x => ?_)
    have hx := h x
    simp only [List.mem_cons] at hx
    constructor
    · intro m
      have := hs1.1 x m
      rcases hx.1 (.inr m) with e | m2
      · omega
      · exact m2
    · intro m
      have := ht1.1 x m
      rcases hx.2 (.inr m) with e | m2
      · omega
      · exact m2

theorem mem_getDr {l : List Int} {x : Int} (h : x ∈ l) : ∃ i, i < l.length ∧ l.getD i 0 = x := by
  obtain ⟨i, hi, rfl⟩ := List.mem_iff_getElem.1 h
  exact ⟨i, hi, by rw [List.getD_eq_getElem?_getD, List.getElem?_eq_getElem hi]; rfl⟩

def InU (l : List Int) : Prop := ∀ y, y ∈ l → 0 ≤ y ∧ y ≤ 18446744073709551615
theorem inU_getD {l : List Int} (h : InU l) (j : Nat) : 0 ≤ l.getD j 0 ∧ l.getD j 0 ≤ 18446744073709551615 := by
  by_cases q : j < l.length
  · rw [List.getD_eq_getElem?_getD, List.getElem?_eq_getElem q]; exact h _ (List.getElem_mem _)
  · rw [List.getD_eq_getElem?_getD, List.getElem?_eq_none (by omega)]; simp

theorem below_drewN (B : Nat) (w : World) (n : Nat) : Below B w (w.drewN n) := ⟨rfl, rfl, rfl, Nat.le_refl _, fun _ _ => rfl⟩

theorem rising_getD {l : List Int} (hp : l.Pairwise (· < ·)) (i j : Nat) (hij : i < j) (hj : j < l.length) : l.getD i 0 < l.getD j 0 := by
  have q := List.pairwise_iff_getElem.1 hp i j (by omega) hj hij
  rw [List.getD_eq_getElem?_getD, List.getElem?_eq_getElem (by omega), List.getD_eq_getElem?_getD, List.getElem?_eq_getElem hj]
  exact q
theorem owner_mem {S : List Int} {x : Int} (hp : S.Pairwise (· < ·)) (hx : x ∈ S) : ∃ o : Nat, ownerN S x = o ∧ o < S.length ∧ S.getD o 0 = x := by
  obtain ⟨o, ho, rfl⟩ := mem_getDr hx
  exact ⟨o, owner_hit S _ o ho (fun j hj => rising_getD hp j o hj ho) (Int.le_refl _), ho, rfl⟩
theorem owner_rng (S : List Int) (x : Int) (h : 0 < S.length) : ∃ o : Nat, ownerN S x = o ∧ o < S.length := by
  cases S with
  | nil => simp at h
  | cons a S =>
    refine ⟨((a :: S).findIdx? fun y => decide (x ≤ y)).getD 0, rfl, ?_⟩
    cases hf : (a :: S).findIdx? fun y => decide (x ≤ y) with
    | none => exact h
    | some i => exact (List.findIdx?_eq_some_iff_getElem.1 hf).1
end Go.Proofs.YtmajlldfiiokoaaGreatDoor
