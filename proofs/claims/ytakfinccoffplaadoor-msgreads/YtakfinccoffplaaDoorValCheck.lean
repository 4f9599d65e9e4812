/- value.Schema.Check, value.Schema.Filter. -/
import Derived.Test.YtakfinccoffplaaDoorValEvent
namespace Go.Proofs.YtakfinccoffplaaDoor
open Go.ChangeShapes Go.WideShapes Go.ChangeAt Go.RowKit
set_option linter.unusedVariables false

theorem found_ex (az : List At) (n : ByteArray) : ∃ r, Found az n r := by
  by_cases h : ∃ k, k < az.length ∧ (az.getD k at0).name = n
  · have : ∀ m, (∃ k, k < m ∧ k < az.length ∧ (az.getD k at0).name = n) → ∃ k, FindAt az n k := by
      intro m
      induction m with
      | zero => rintro ⟨k, h, _⟩; omega
      | succ m ih =>
        rintro ⟨k, h1, h2, h3⟩
        by_cases hh : ∃ k, k < m ∧ k < az.length ∧ (az.getD k at0).name = n
        · exact ih hh
        · refine ⟨k, h2, h3, fun j hj e => hh ⟨j, by omega, by omega, e⟩⟩
    obtain ⟨k, h1, h2⟩ := h
    obtain ⟨k', hk'⟩ := this (k + 1) ⟨k, by omega, h1, h2⟩
    exact ⟨k', .inl ⟨k', rfl, hk'⟩⟩
  · exact ⟨-1, .inr ⟨rfl, fun j hj e => h ⟨j, hj, e⟩⟩⟩
theorem Found.uniq {az : List At} {n : ByteArray} {r s : Int} (h : Found az n r) (g : Found az n s) : r = s := by
  rcases h with ⟨k, rfl, hk⟩ | ⟨rfl, hk⟩ <;> rcases g with ⟨l, rfl, hl⟩ | ⟨rfl, hl⟩
  · rw [hk.uniq hl]
  · exact absurd hk.2.1 (hl k hk.1)
  · exact absurd hl.2.1 (hk l hl.1)
  · rfl
theorem AtIn.take {w : World} {a : Option Addr} {n c : Nat} {az : List At} (h : AtIn w (.slice a n c) az) (k : Nat) (hk : k ≤ az.length) : AtIn w (.slice a k c) (az.take k) := by
  have hl : (az.take k).length = k := by simp [hk]
  refine ⟨a, c, by rw [hl], fun hp => ?_⟩
  rw [hl] at hp
  obtain ⟨a', c', e, hh⟩ := h.shape
  obtain ⟨g, ha, hg, hc, hj⟩ := hh (by omega)
  simp at e
  obtain ⟨rfl, rfl, rfl⟩ := e
  refine ⟨g, ha, hg, by omega, fun j hjk => ?_⟩
  rw [getD_take _ _ _ _ (by omega)]
  exact hj j (by omega)
theorem PdIn.take {w : World} {a : Option Addr} {n c : Nat} {az : List Pd} (h : PdIn w (.slice a n c) az) (k : Nat) (hk : k ≤ az.length) : PdIn w (.slice a k c) (az.take k) := by
  have hl : (az.take k).length = k := by simp [hk]
  refine ⟨a, c, by rw [hl], fun hp => ?_⟩
  rw [hl] at hp
  obtain ⟨a', c', e, hh⟩ := h.shape
  obtain ⟨g, ha, hg, hc, hj⟩ := hh (by omega)
  simp at e
  obtain ⟨rfl, rfl, rfl⟩ := e
  refine ⟨g, ha, hg, by omega, fun j hjk => ?_⟩
  rw [getD_take _ _ _ _ (by omega)]
  exact hj j (by omega)

/-- One attribute of a schema is right: in form, and of a name that no one ahead of it has. -/
def Good (az : List At) (i : Nat) : Prop := AttrOk (az.getD i at0) ∧ ∀ j, j < i → (az.getD j at0).name ≠ (az.getD i at0).name
theorem find_take {az : List At} {k : Nat} {r : Int} (hk : k < az.length) (h : Found (az.take k) (az.getD k at0).name r) : r < 0 ↔ ∀ j, j < k → (az.getD j at0).name ≠ (az.getD k at0).name := by
  have hl : (az.take k).length = k := by simp; omega
  rcases h with ⟨l, rfl, h1, h2, h3⟩ | ⟨rfl, h1⟩
  · rw [hl] at h1
    rw [getD_take _ _ _ _ h1] at h2
    exact ⟨fun h => by omega, fun h => absurd h2 (h l h1)⟩
  · refine ⟨fun _ j hj => ?_, fun _ => by omega⟩
    have := h1 j (by omega)
    rwa [getD_take _ _ _ _ hj] at this

end Go.Proofs.YtakfinccoffplaaDoor
