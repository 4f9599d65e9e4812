/- A schema and a filter of the call's own: what the laws of layer 8 carry. -/
import Derived.Test.YtiafamfnbpbfiaaGreatDoorGrDoor
import Derived.Test.YtiafamfnbpbfiaaGreatDoorValPreds
import Derived.Test.YtiafamfnbpbfiaaGreatDoorValEv
namespace Go.Proofs.YtiafamfnbpbfiaaGreatDoor
open Go.ChangeShapes Go.WideShapes Go.ChangeAt Go.RowKit
set_option linter.unusedVariables false

theorem gz_cutA (t : List At) : ∀ i, i < ((t.take 6).map cutA).length → (((t.take 6).map cutA).getD i at0).name.size ≤ 20 := fun i hi => by
  have hi' : i < 6 ∧ i < t.length := by simp at hi; omega
  have e : ((t.take 6).map cutA).getD i at0 = cutA t[i] := by simp [hi'.1, hi'.2]
  rw [e]
  exact cut_size t[i].name 20
theorem gz_cutV (t : List Vl) : ∀ i, i < ((t.take 6).map cutV).length → (((t.take 6).map cutV).getD i vl0).str.size ≤ 50 := fun i hi => by
  have hi' : i < 6 ∧ i < t.length := by simp at hi; omega
  have e : ((t.take 6).map cutV).getD i vl0 = cutV t[i] := by simp [hi'.1, hi'.2]
  rw [e]
  exact cut_size t[i].str 50
theorem gz_cutP (t : List Pd) : ∀ i, i < ((t.take 6).map cutP).length → (((t.take 6).map cutP).getD i pd0).str.size ≤ 50 ∧ (((t.take 6).map cutP).getD i pd0).name.size ≤ 20 := fun i hi => by
  have hi' : i < 6 ∧ i < t.length := by simp at hi; omega
  have e : ((t.take 6).map cutP).getD i pd0 = cutP t[i] := by simp [hi'.1, hi'.2]
  rw [e]
  exact ⟨cut_size t[i].str 50, cut_size t[i].name 20⟩
/-- The schema and the filter lie where they lay, the table too. -/
structure Fm (w W : World) (sl gl : Value) (L : List At) (G : List Pd) : Prop where
  at_ : AtIn W sl L
  pd : PdIn W gl G
  env : GEnv W
  bel : Below w.heap.size w W
theorem Fm.below {w W W' : World} {sl gl : Value} {L : List At} {G : List Pd} (h : Fm w W sl gl L G) (b : Below W.heap.size W W') : Fm w W' sl gl L G :=
  ⟨h.at_.below b, h.pd.below b, h.env.below b, h.bel.trans (b.mono h.bel.size)⟩
/-- What a region that asks for a predicate's range reads, in every world that has grown. -/
structure FamR (W : World) {ι : Type} (F : ι → World) (ga gp k i : Nat) (x : At) (p : Pd) (sl : Value) (L : List At) : Prop where
  a0 : ∀ j, (F j).cell? ⟨ga, k * 4, none⟩ = some (.string x.name)
  a1 : ∀ j, (F j).cell? ⟨ga, k * 4 + 1, none⟩ = some (.int .i64 x.kind)
  a2 : ∀ j, (F j).cell? ⟨ga, k * 4 + 2, none⟩ = some (.int .i64 x.mn)
  a3 : ∀ j, (F j).cell? ⟨ga, k * 4 + 3, none⟩ = some (.int .i64 x.mx)
  p0 : ∀ j, (F j).cell? ⟨gp, i * 5, none⟩ = some (.string p.name)
  p1 : ∀ j, (F j).cell? ⟨gp, i * 5 + 1, none⟩ = some (.int .i64 p.op)
  p2 : ∀ j, (F j).cell? ⟨gp, i * 5 + 2, none⟩ = some (.int .i64 p.lo)
  p3 : ∀ j, (F j).cell? ⟨gp, i * 5 + 3, none⟩ = some (.int .i64 p.hi)
  p4 : ∀ j, (F j).cell? ⟨gp, i * 5 + 4, none⟩ = some (.string p.str)
  ai : ∀ j, AtIn (F j) sl L
  st : ∃ j, { W with drawn := W.drawn + 1 } = F j
  be : ∀ j, Below W.heap.size W (F j)
  cl : ∀ j W', Below W.heap.size (F j) W' → ∃ j', W' = F j'
theorem fam_r {w W : World} {sl gl : Value} {L : List At} {G : List Pd} (h : Fm w W sl gl L G) (i k : Nat) (hi : i < G.length) (hk : k < L.length) :
    ∃ (ga gp ca cg : Nat) (ι : Type) (F : ι → World), Nonempty ι ∧ sl = .slice (some ⟨ga, 0, none⟩) L.length ca ∧ gl = .slice (some ⟨gp, 0, none⟩) G.length cg ∧ FamR W F ga gp k i (L.getD k at0) (G.getD i pd0) sl L := by
  obtain ⟨aa, ca, rfl, _⟩ := h.at_.shape
  obtain ⟨ap, cg, rfl, _⟩ := h.pd.shape
  obtain ⟨ga, rfl, hga, hca, k0, k1, k2, k3⟩ := h.at_.row k hk
  obtain ⟨gp, rfl, hgp, hcp, q0, q1, q2, q3, q4⟩ := h.pd.row i hi
  obtain ⟨ι, F, hne, hF0, hFb, hFc⟩ := grown_fam W
  exact ⟨ga, gp, ca, cg, ι, F, hne, rfl, rfl, fun j => cell_grown k0 (hFb j), fun j => cell_grown k1 (hFb j), fun j => cell_grown k2 (hFb j), fun j => cell_grown k3 (hFb j), fun j => cell_grown q0 (hFb j), fun j => cell_grown q1 (hFb j), fun j => cell_grown q2 (hFb j), fun j => cell_grown q3 (hFb j), fun j => cell_grown q4 (hFb j), fun j => h.at_.below (hFb j), hF0, hFb, hFc⟩
end Go.Proofs.YtiafamfnbpbfiaaGreatDoor
