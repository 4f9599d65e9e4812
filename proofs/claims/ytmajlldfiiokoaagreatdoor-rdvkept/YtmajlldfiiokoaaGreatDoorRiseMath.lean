/- Rising lists of numbers, each once; no program in sight. -/
import Derived.Test.YtmajlldfiiokoaaGreatDoorRingMath
import Derived.Test.YtmajlldfiiokoaaGreatDoorJoinSortRow
import Derived.BigQuiet
namespace Go.Proofs.YtmajlldfiiokoaaGreatDoor
open Go.ChangeShapes Go.WideShapes Go.ChangeAt Go.RowKit
set_option linter.unusedVariables false

theorem nodup_len : ∀ (t l : List Int), t.Pairwise (· < ·) → (∀ x, x ∈ t → x ∈ l) → t.length ≤ l.length
  | [], l, _, _ => Nat.zero_le _
  | a :: t, l, hp, hs => by
    have ha : a ∈ l := hs a (by simp)
    have q := nodup_len t (l.erase a) (List.pairwise_cons.1 hp).2 (fun x hx => by
      have hlt := (List.pairwise_cons.1 hp).1 x hx
      exact (List.mem_erase_of_ne (by omega)).2 (hs x (by simp [hx])))
    rw [List.length_erase_of_mem ha] at q
    have : 0 < l.length := List.length_pos_of_mem ha
    simp; omega

theorem mem_getDr {l : List Int} {x : Int} (h : x ∈ l) : ∃ i, i < l.length ∧ l.getD i 0 = x := by
  obtain ⟨i, hi, rfl⟩ := List.mem_iff_getElem.1 h
  exact ⟨i, hi, by rw [List.getD_eq_getElem?_getD, List.getElem?_eq_getElem hi]; rfl⟩

theorem owner_rng (S : List Int) (x : Int) (h : 0 < S.length) : ∃ o : Nat, ownerN S x = o ∧ o < S.length := by
  cases S with
  | nil => simp at h
  | cons a S =>
    refine ⟨((a :: S).findIdx? fun y => decide (x ≤ y)).getD 0, rfl, ?_⟩
    cases hf : (a :: S).findIdx? fun y => decide (x ≤ y) with
    | none => exact h
    | some i => exact (List.findIdx?_eq_some_iff_getElem.1 hf).1
end Go.Proofs.YtmajlldfiiokoaaGreatDoor
