/- What the statements about lists of places share: lists that came in, and ring.Owner at them. -/
import Derived.Test.YthadgekojenpjabSortRing
import Derived.Test.YthadgekojenpjabRing
import Derived.DataReads
namespace Go.Proofs.Ythadgekojenpjab
open Go.ChangeShapes Go.WideShapes Go.ChangeAt Go.RowKit
set_option linter.unusedVariables false

theorem OwnIds.ids {B : Nat} {w : World} {v : Value} {l : List Int} (h : OwnIds B w v l) : ∃ a c, v = .slice a l.length c ∧ l.length ≤ c ∧ IdsAt w a l.length l := by
  rcases h with ⟨rfl, rfl⟩ | ⟨g, c, rfl, hc, hB, hg, hR⟩
  · exact ⟨none, 0, rfl, Nat.le_refl _, rfl, .inl rfl⟩
  · refine ⟨_, c, rfl, hc, ?_⟩
    have q := hR.ids l.length (by simp)
    simpa using q

theorem ids_of {w : World} {a : Option Addr} {len cap : Nat} {zs : List Int} (h : (a = none ∧ len = 0 ∧ cap = 0 ∧ zs = []) ∨
    ∃ x, a = some x ∧ len ≤ cap ∧ cap ≤ maxLen ∧ zs.length = cap ∧ (∀ i, i < zs.length → w.cell? (x.add i) = some (.int .u64 (zs.getD i 0))) ∧ ∀ n ∈ zs, (Lit.int .u64 n).wf = true)
    (n : Nat) (hn : n ≤ len) : IdsAt w a n (zs.take n) ∧ (∀ y, y ∈ zs.take n → 0 ≤ y ∧ y ≤ 18446744073709551615) ∧ len ≤ cap ∧ cap ≤ maxLen := by
  rcases h with ⟨rfl, rfl, rfl, rfl⟩ | ⟨x, rfl, h1, h2, h3, h4, h5⟩
  · obtain rfl : n = 0 := by omega
    exact ⟨⟨rfl, .inl rfl⟩, fun y hy => by simp at hy, Nat.le_refl _, Nat.zero_le _⟩
  · refine ⟨⟨by simp; omega, ?_⟩, fun y hy => ?_, h1, h2⟩
    · rcases Nat.eq_zero_or_pos n with q | q
      · exact .inl q
      · have s := World.cell?_spot (h4 0 (by omega))
        obtain ⟨b, o, sp⟩ := x
        cases sp with
        | some s' => simp [Addr.add] at s
        | none =>
          refine .inr ⟨b, o, rfl, fun j hj => ?_⟩
          have c := h4 j (by omega)
          rw [show Addr.add ⟨b, o, none⟩ j = ⟨b, o + j, none⟩ from by unfold Addr.add; split <;> simp_all] at c
          rw [c, List.getD_eq_getElem?_getD, List.getD_eq_getElem?_getD, List.getElem?_take, if_pos hj]
    · have := h5 y (List.mem_of_mem_take hy)
      exact bounds_u64 this

theorem owner_ids (a : Option Addr) (n cap : Nat) (l : List Int) (x : Int) (w : World) (h : IdsAt w a n l) (hn : n < 64) :
    Calls Try.prog 11 #[.slice a n cap, .int .u64 x] w fun e w' => e = .returned (.int .i64 (ownerN l x)) ∧ w' = w := by
  rcases Nat.eq_zero_or_pos n with rfl | q
  · have : l = [] := List.eq_nil_of_length_eq_zero h.1
    subst this
    exact owner_none a cap x w
  · rcases h.2 with h0 | ⟨b, o, rfl, hc⟩
    · omega
    · exact owner_some b o n cap l x w h.1 q (by omega) hc
end Go.Proofs.Ythadgekojenpjab
