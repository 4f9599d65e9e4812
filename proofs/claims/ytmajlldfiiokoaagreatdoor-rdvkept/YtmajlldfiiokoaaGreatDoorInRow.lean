/- Slices that came in, whatever they are of: what a walk is told of them. -/
import Derived.Test.YtmajlldfiiokoaaGreatDoorRows
import Derived.Test.YtmajlldfiiokoaaGreatDoorJoinRowMath
import Derived.ChangeArms
import Derived.DataReads
import Derived.Deep.Slices
import Derived.WalkKit
import Derived.ProofKit
import Derived.OpenShut
namespace Go.Proofs.YtmajlldfiiokoaaGreatDoor
open Go.ChangeShapes Go.WideShapes Go.ChangeAt Go.RowKit Go.Deep
set_option linter.unusedVariables false

/-- The things xs, of k cells each, lie where the slice shows. -/
def InRow {α : Type} (k : Nat) (enc : α → List Value) (ok : α → Prop) (d : α) (w : World) (a : Option Addr) (len : Nat) (xs : List α) : Prop :=
  xs.length = len ∧ len ≤ 9223372036854775807 ∧ (len = 0 ∨ ∃ b o, a = some ⟨b, o, none⟩ ∧ b < w.heap.size ∧ ∀ i, i < len → ok (xs.getD i d) ∧ ∀ j, j < k → w.cell? ⟨b, o + i * k + j, none⟩ = (enc (xs.getD i d))[j]?)

section
variable {H : Type} {enc' : TypeId × Value → H} {W : World}
set_option maxRecDepth 100000 in
theorem inrow_of {α : Type} (k : Nat) (enc : α → List Value) (ok : α → Prop) (d : α) (TS E : TypeId) (hT : Tryz.prog.underlying TS = some (.slice E)) (hk : Tryz.prog.cellsOf E = k) (hk0 : 0 < k) (hlen : ∀ a, (enc a).length = k)
    (hel : ∀ n cs x, DataW.trod enc' Tryz.prog W 0 (fun _ => true) true n E cs = some x → ∃ a, cs = enc a ∧ ok a)
    {fuel : Nat} {a : Option Addr} {len cap : Nat} {x : DataW H × List MemPlace}
    (h : DataW.trod enc' Tryz.prog W 0 (fun _ => true) true fuel TS (Value.slice a len cap).cells.toList = some x) : ∃ xs, InRow k enc ok d W a len xs := by
  rcases open_slice hT h with ⟨hcs, _⟩ | ⟨ad, l, c, m, n, D, Pl, hcs, _, hl, hm, hmm, _, hx⟩
  · simp [Value.cells] at hcs
    exact ⟨[], hcs.2.1.symm, by omega, .inl hcs.2.1⟩
  · simp [Value.cells] at hcs
    obtain ⟨rfl, rfl, rfl⟩ := hcs
    by_cases h0 : len = 0
    · exact ⟨[], h0.symm, by omega, .inl h0⟩
    · rw [hk] at hx
      simp at hmm
      subst hmm
      have each : ∀ i, i < m → ∃ t : α, W.cells? 0 (ad.add (i * k)) k = some (enc t) ∧ ok t := fun i hi => by
        obtain ⟨cs', h1, h2⟩ := hx i hi
        obtain ⟨t, rfl, ht⟩ := hel _ _ _ h2
        exact ⟨t, h1, ht⟩
      haveI : Inhabited α := ⟨d⟩
      obtain ⟨f, hf⟩ := choose_lt each
      obtain ⟨b, off, spot⟩ := ad
      have cellAt : ∀ i, i < m → ∀ j, j < k → W.cell? ((⟨b, off, spot⟩ : Addr).add (i * k + j)) = (enc (f i))[j]? := fun i hi j hj => by
        have := (World.cells?_some (hf i hi).1).2.2 j hj
        rwa [add_add] at this
      have hsome : ∃ u, W.cell? ((⟨b, off, spot⟩ : Addr).add (0 * k + 0)) = some u := by
        rw [cellAt 0 (by omega) 0 hk0]
        exact ⟨_, List.getElem?_eq_getElem (by rw [hlen]; exact hk0)⟩
      obtain ⟨u0, hu0⟩ := hsome
      have hspot : spot = none := by
        simpa [Addr.add] using World.cell?_spot hu0
      subst hspot
      have cellAt' : ∀ i, i < m → ∀ j, j < k → W.cell? ⟨b, off + i * k + j, none⟩ = (enc (f i))[j]? := fun i hi j hj => by
        rw [← cellAt i hi j hj]; congr 1
        unfold Addr.add; split <;> simp_all [Nat.add_assoc]
      have hb : b < W.heap.size := by
        have e : (⟨b, off, none⟩ : Addr).add (0 * k + 0) = ⟨b, off + (0 * k + 0), none⟩ := by unfold Addr.add; split <;> simp_all
        rw [e] at hu0
        exact World.block_lt_of_cell? _ _ hu0
      have hget : ∀ j, j < len → (((List.range len).map f).getD j d) = f j := fun j hj => by simp [List.getD, hj]
      unfold maxLen at hm
      refine ⟨(List.range len).map f, by simp, by omega, .inr ⟨b, off, rfl, hb, fun i hi => ?_⟩⟩
      rw [hget i hi]
      exact ⟨(hf i (by omega)).2, fun j hj => cellAt' i (by omega) j hj⟩

theorem InRow.below {α : Type} {k : Nat} {enc : α → List Value} {ok : α → Prop} {d : α} {w w' : World} {a : Option Addr} {len : Nat} {xs : List α} (h : InRow k enc ok d w a len xs) {B : Nat} (hB : w.heap.size ≤ B) (hb : Below B w w') : InRow k enc ok d w' a len xs := by
  refine ⟨h.1, h.2.1, ?_⟩
  rcases h.2.2 with h0 | ⟨b, o, ha, hlt, hc⟩
  · exact .inl h0
  · exact .inr ⟨b, o, ha, by have := hb.size; omega, fun i hi => ⟨(hc i hi).1, fun j hj => (hb.cell (p := ⟨b, o + i * k + j, none⟩) (by show b < B; omega)).trans ((hc i hi).2 j hj)⟩⟩

/-- A text. -/
def encS (s : ByteArray) : List Value := [.string s]
def okS (s : ByteArray) : Prop := s.size ≤ 9223372036854775807
theorem str_of (n : Nat) (cs : List Value) (x : DataW H × List MemPlace) (h : DataW.trod enc' Tryz.prog W 0 (fun _ => true) true n 9 cs = some x) : ∃ s, cs = encS s ∧ okS s := by
  obtain ⟨s, e, _, ws⟩ := DataW.trod_string Tryz.underlying9 h
  exact ⟨s, e, ws⟩
theorem cellsS1 : Tryz.prog.cellsOf 9 = 1 := by kernel_rfl
theorem lenS (s : ByteArray) : (encS s).length = 1 := rfl

/-- An int. -/
def encI (n : Int) : List Value := [.int .i64 n]
theorem cellsI1 : Tryz.prog.cellsOf 3 = 1 := by kernel_rfl
/-- A call of wigwaglaw03's. -/
structure Ac3 where
  kind : Int
  a : Int
  b : Int
  s : ByteArray
def Ac3.cells (t : Ac3) : List Value := [.int .i64 t.kind, .int .i64 t.a, .int .i64 t.b, .string t.s]
def Ac3.ok (t : Ac3) : Prop := i64 t.kind ∧ i64 t.a ∧ i64 t.b ∧ t.s.size ≤ 9223372036854775807
end
end Go.Proofs.YtmajlldfiiokoaaGreatDoor
