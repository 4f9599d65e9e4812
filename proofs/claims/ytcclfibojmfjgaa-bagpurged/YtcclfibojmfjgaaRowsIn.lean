/- Slices that came in: of ints, of strings: what lies where. -/
import Derived.Test.YtcclfibojmfjgaaRows
import Derived.Test.YtcclfibojmfjgaaBagMath
import Derived.DataReads
import Derived.WalkKit
import Derived.ProofKit
import Derived.OpenShut
namespace Go.Proofs.Ytcclfibojmfjgaa
open Go.ChangeShapes Go.WideShapes Go.ChangeAt Go.RowKit
set_option linter.unusedVariables false

theorem ints_of {w : World} {a : Option Addr} {len cap : Nat} {zs : List Int} (h : (a = none ∧ len = 0 ∧ cap = 0 ∧ zs = []) ∨
    ∃ x, a = some x ∧ len ≤ cap ∧ cap ≤ maxLen ∧ zs.length = cap ∧ (∀ i, i < zs.length → w.cell? (x.add i) = some (.int .i64 (zs.getD i 0))) ∧ ∀ n ∈ zs, (Lit.int .i64 n).wf = true) :
    (len = 0 ∨ ∃ b o, a = some ⟨b, o, none⟩ ∧ b < w.heap.size ∧ ∀ j, j < len → w.cell? ⟨b, o + j, none⟩ = some (.int .i64 (zs.getD j 0)) ∧ i64 (zs.getD j 0)) ∧ len ≤ 9223372036854775807 := by
  rcases h with ⟨rfl, rfl, rfl, rfl⟩ | ⟨x, rfl, h1, h2, h3, h4, h5⟩
  · exact ⟨.inl rfl, by omega⟩
  · unfold maxLen at h2
    refine ⟨?_, by omega⟩
    rcases Nat.eq_zero_or_pos len with q | q
    · exact .inl q
    · have s := World.cell?_spot (h4 0 (by omega))
      obtain ⟨b, o, sp⟩ := x
      cases sp with
      | some s' => simp [Addr.add] at s
      | none =>
        have hc : ∀ j, j < len → w.cell? ⟨b, o + j, none⟩ = some (.int .i64 (zs.getD j 0)) := fun j hj => by
          have c := h4 j (by omega)
          rwa [show Addr.add ⟨b, o, none⟩ j = ⟨b, o + j, none⟩ from by unfold Addr.add; split <;> simp_all] at c
        refine .inr ⟨b, o, rfl, World.block_lt_of_cell? _ _ (hc 0 q), fun j hj => ⟨hc j hj, ?_⟩⟩
        refine bounds_i64 (h5 _ ?_)
        rw [List.getD_eq_getElem?_getD, List.getElem?_eq_getElem (by omega)]; simp
end Go.Proofs.Ytcclfibojmfjgaa
