/- dyad.Chain and dyad.Cover, whatever they are asked. -/
import Derived.Test.YtkkbhkpeglcodaaGreatDoorDyCov2
import Derived.Test.YtkkbhkpeglcodaaGreatDoorDyCount
namespace Go.Proofs.YtkkbhkpeglcodaaGreatDoor
open Go.ChangeShapes Go.WideShapes Go.ChangeAt Go.RowKit
set_option linter.unusedVariables false

theorem chainOf_any (c L : Int) (w : World) :
    Calls Tryz.prog 50 #[.int .i64 c, .int .i64 L] w fun e w' => ∃ v, e = .returned v ∧ IvRow 23 w w' v (chainOf c L) := by
  by_cases h : (Iv.mk L c).good L
  · obtain ⟨l, k, n, e, rfl, h1, h2, h3⟩ := Iv.good_nat h
    have e1 : ((n : Nat) : Int) = l := congrArg Iv.lev e
    have e2 : c = k := congrArg Iv.idx e
    obtain rfl : n = l := by omega
    subst e2
    rw [chainOf_nat h2 h3]
    exact chain_yes k n w h2 h3
  · have e : chainOf c L = [] := if_neg h
    rw [e]
    refine (chain_no c L w h).mono ?_
    rintro e w' ⟨rfl, hb⟩
    exact ⟨_, rfl, IvRow.nil _ _ _ hb⟩
theorem coverOf_any (lo hi L : Int) (w : World) :
    Calls Tryz.prog 46 #[.int .i64 lo, .int .i64 hi, .int .i64 L] w fun e w' => ∃ v, e = .returned v ∧ IvRow 23 w w' v (coverOf lo hi L) := by
  by_cases h : (Iv.mk L lo).good L ∧ (Iv.mk L hi).good L
  · obtain ⟨l, k, n, e, rfl, h1, h2, h3⟩ := Iv.good_nat h.1
    obtain ⟨l', k', n', e', en, g1, g2, g3⟩ := Iv.good_nat h.2
    have e1 : ((n : Nat) : Int) = l := congrArg Iv.lev e
    have e2 : lo = k := congrArg Iv.idx e
    have e1' : ((n : Nat) : Int) = l' := congrArg Iv.lev e'
    have e2' : hi = k' := congrArg Iv.idx e'
    obtain rfl : n = l := by omega
    obtain rfl : n = l' := by omega
    subst e2 e2'
    rw [coverOf_nat h2 h3 g3]
    exact cover_yes k k' n w h2 h3 g3
  · have e : coverOf lo hi L = [] := if_neg h
    rw [e]
    refine (cover_no lo hi L w h).mono ?_
    rintro e w' ⟨rfl, hb⟩
    exact ⟨_, rfl, IvRow.nil _ _ _ hb⟩
/-- The rows of the call itself and of another one, side by side. -/
theorem IvIn.get {w : World} {a : Option Addr} {m c : Nat} {xs : List Iv} (h : IvIn w (.slice a m c) xs) (k : Nat) (hk : k < xs.length) :
    ∃ g, a = some ⟨g, 0, none⟩ ∧ g < w.heap.size ∧ xs.length ≤ c ∧ w.cell? ⟨g, k * 2, none⟩ = some (.int .i64 (xs.getD k iv0).lev) ∧ w.cell? ⟨g, k * 2 + 1, none⟩ = some (.int .i64 (xs.getD k iv0).idx) := by
  obtain ⟨a', c', e, hh⟩ := h.shape
  obtain ⟨g, ha, hg, hc, hj⟩ := hh (by omega)
  simp at e
  obtain ⟨rfl, rfl, rfl⟩ := e
  exact ⟨g, ha, hg, hc, hj k hk⟩
end Go.Proofs.YtkkbhkpeglcodaaGreatDoor
