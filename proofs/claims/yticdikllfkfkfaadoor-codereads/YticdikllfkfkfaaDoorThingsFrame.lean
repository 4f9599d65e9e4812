/- A slice of things as it is read when a call begins: what a walk is told of it. -/
import Derived.Test.YticdikllfkfkfaaDoorThings
import Derived.ChangeArms
namespace Go.Proofs.YticdikllfkfkfaaDoor
open Go.ChangeShapes Go.WideShapes Go.ChangeAt Go.RowKit Go.Deep
set_option linter.unusedVariables false

theorem cellsTh : Tryd.prog.cellsOf 33 = 4 := by kernel_rfl
theorem cellsI : Tryd.prog.cellsOf 3 = 1 := by kernel_rfl
theorem cellsU : Tryd.prog.cellsOf 31 = 1 := by kernel_rfl
theorem cellsS : Tryd.prog.cellsOf 9 = 1 := by kernel_rfl

section
variable {H : Type} {enc : TypeId × Value → H} {W : World}

set_option maxRecDepth 100000 in
theorem thing_of {n : Nat} {cs : List Value} {x : DataW H × List MemPlace} (h : DataW.trod enc Tryd.prog W 0 (fun _ => true) true n 33 cs = some x) :
    ∃ t : Th, cs = t.cells ∧ t.ok := by
  obtain ⟨xs, m, _, _, hl, hlen, hf⟩ := DataW.trod_struct Tryd.underlying33 h
  rw [cellsTh] at hl
  match cs, hl with
  | [c0, c1, c2, c3], _ =>
    match xs, hlen with
    | [y0, y1, y2, y3], _ =>
      have f0 := hf 0 _ rfl
      have f1 := hf 1 _ rfl
      have f2 := hf 2 _ rfl
      have f3 := hf 3 _ rfl
      simp [cellsI, cellsU, cellsS] at f0 f1 f2 f3
      obtain ⟨k, e0, _, wk⟩ := DataW.trod_int Tryd.underlying3 f0
      obtain ⟨n, e1, _, wn⟩ := DataW.trod_int Tryd.underlying3 f1
      obtain ⟨u, e2, _, wu⟩ := DataW.trod_int Tryd.underlying31 f2
      obtain ⟨s, e3, _, ws⟩ := DataW.trod_string Tryd.underlying9 f3
      simp at e0 e1 e2 e3
      subst e0 e1 e2 e3
      have bk := bounds_i64 wk
      have bn := bounds_i64 wn
      have bu := bounds_u64 wu
      refine ⟨⟨k, n, u.toNat, s⟩, ?_, bk, bn, by show u.toNat < _; omega, ws⟩
      have e : ((u.toNat : Nat) : Int) = u := by omega
      simp [Th.cells, e]

theorem things_of {fuel : Nat} {a : Option Addr} {len cap : Nat} {x : DataW H × List MemPlace}
    (h : DataW.trod enc Tryd.prog W 0 (fun _ => true) true fuel 22 (Value.slice a len cap).cells.toList = some x) : ∃ ts, IsThings W a len cap ts := by
  rcases open_slice Tryd.underlying22 h with ⟨hcs, _⟩ | ⟨ad, l, c, m, n, D, Pl, hcs, _, hl, hm, hmm, _, hx⟩
  · simp [Value.cells] at hcs
    exact ⟨[], .inl ⟨hcs.2.1, rfl⟩⟩
  · simp [Value.cells] at hcs
    obtain ⟨rfl, rfl, rfl⟩ := hcs
    by_cases h0 : len = 0
    · exact ⟨[], .inl ⟨h0, rfl⟩⟩
    · rw [cellsTh] at hx
      simp at hmm
      subst hmm
      have each : ∀ i, i < m → ∃ t : Th, W.cells? 0 (ad.add (i * 4)) 4 = some t.cells ∧ t.ok := fun i hi => by
        obtain ⟨cs', h1, h2⟩ := hx i hi
        obtain ⟨t, rfl, ht⟩ := thing_of h2
        exact ⟨t, h1, ht⟩
      haveI : Inhabited Th := ⟨th0⟩
      obtain ⟨f, hf⟩ := choose_lt each
      obtain ⟨b, off, spot⟩ := ad
      have cellAt : ∀ i, i < m → ∀ j, j < 4 → W.cell? ((⟨b, off, spot⟩ : Addr).add (i * 4 + j)) = (f i).cells[j]? := fun i hi j hj => by
        have := (World.cells?_some (hf i hi).1).2.2 j hj
        rwa [add_add] at this
      have hspot : spot = none := by
        have := cellAt 0 (by omega) 0 (by omega)
        simp [Th.cells] at this
        simpa [Addr.add] using World.cell?_spot this
      subst hspot
      have cellAt' : ∀ i, i < m → ∀ j, j < 4 → W.cell? ⟨b, off + (i * 4 + j), none⟩ = (f i).cells[j]? := fun i hi j hj => by
        rw [← cellAt i hi j hj]; congr 1
        unfold Addr.add; split <;> simp_all
      have hb : b < W.heap.size := by
        have := cellAt' 0 (by omega) 0 (by omega)
        simp [Th.cells] at this
        exact World.block_lt_of_cell? _ _ this
      have hget : ∀ j, j < len → (((List.range len).map f).getD j th0) = f j := fun j hj => by simp [List.getD, hj]
      refine ⟨(List.range len).map f, .inr ⟨b, off, rfl, by omega, by omega, hb, ⟨by simp, fun j hj => ?_, fun j hj => ?_, fun j hj => ?_, fun j hj => ?_, fun t ht => ?_⟩⟩⟩
      · rw [hget j hj]; have := cellAt' j (by omega) 0 (by omega); simpa [Th.cells] using this
      · rw [hget j hj]; have := cellAt' j (by omega) 1 (by omega); simpa [Th.cells, Nat.add_assoc] using this
      · rw [hget j hj]; have := cellAt' j (by omega) 2 (by omega); simpa [Th.cells, Nat.add_assoc] using this
      · rw [hget j hj]; have := cellAt' j (by omega) 3 (by omega); simpa [Th.cells, Nat.add_assoc] using this
      · obtain ⟨i, hi, rfl⟩ := List.mem_map.1 ht
        exact (hf i (by have := List.mem_range.1 hi; omega)).2
end
end Go.Proofs.YticdikllfkfkfaaDoor
