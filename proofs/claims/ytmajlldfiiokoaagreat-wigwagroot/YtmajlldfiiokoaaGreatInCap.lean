/- A slice that comes in is no longer than its capacity. -/
import Derived.Test.YtmajlldfiiokoaaGreatInRow
namespace Go.Proofs.YtmajlldfiiokoaaGreat
open Go.ChangeShapes Go.WideShapes Go.ChangeAt Go.RowKit Go.Deep
theorem incap_of {H : Type} {enc' : TypeId × Value → H} {W : World} {TS E : TypeId} (hT : Tryz.prog.underlying TS = some (.slice E)) {fuel : Nat} {a : Option Addr} {len cap : Nat} {x : DataW H × List MemPlace} (h : DataW.trod enc' Tryz.prog W 0 (fun _ => true) true fuel TS (Value.slice a len cap).cells.toList = some x) : len ≤ cap := by
  rcases Go.Deep.open_slice hT h with ⟨hcs, _⟩ | ⟨ad, l, c, m, n, D, Pl, hcs, _, hl, hm, hmm, _, hx⟩
  · simp [Value.cells] at hcs; omega
  · simp [Value.cells] at hcs; obtain ⟨rfl, rfl, rfl⟩ := hcs; exact hl
end Go.Proofs.YtmajlldfiiokoaaGreat
