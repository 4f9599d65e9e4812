/- Trees by a list: how many nodes there are. -/
import Derived.Test.YtefaigdanoninaaDoorTrAwake
namespace Go.Proofs.YtefaigdanoninaaDoor
open Go.ChangeShapes Go.WideShapes Go.ChangeAt Go.RowKit Go.Deep
set_option linter.unusedVariables false

theorem fit_len {l : List Int} {t : Tr} (h : TrOk (nxL l) t) : t.up.length ≤ l.length := by
  have := nodup_le (t.up.map (·.1)) ((List.range l.length).map fun (k : Nat) => (k : Int)) h.nd (fun x hx => by
    obtain ⟨p, hp, rfl⟩ := List.mem_map.1 hx
    have h1 := lookI_mem h.nd (k := p.1) (v := p.2) hp
    have h2 := nxL_some (h.st _ _ h1).1
    exact List.mem_map.2 ⟨p.1.toNat, by simp; omega, by omega⟩)
  simpa using this
theorem fit_key {l : List Int} {t : Tr} (h : TrOk (nxL l) t) {k : Int} (hk : k ∈ t.up.map (·.1)) : 0 ≤ k ∧ k < l.length := by
  obtain ⟨p, hp, rfl⟩ := List.mem_map.1 hk
  have h1 := lookI_mem h.nd (k := p.1) (v := p.2) hp
  have h2 := nxL_some (h.st _ _ h1).1
  exact ⟨h2.1, h2.2.1⟩
theorem fit_root {l : List Int} {t : Tr} (h : TrOk (nxL l) t) : t.root = -1 ∨ 0 ≤ t.root ∧ t.root < l.length := by
  by_cases e : t.root = -1
  · exact .inl e
  · have := nxL_some (h.rt e)
    exact .inr ⟨this.1, this.2.1⟩
theorem tree_root {nx : Int → Option Int} {l : List Int} (h : (treeOf nx l).1 = 0) (hl : 0 < l.length) : (treeOf nx l).2.root ≠ -1 := by
  unfold treeOf at h ⊢
  by_cases c1 : (ofT nx tr0 l).1 = 0
  · rw [if_neg (fun z => z c1)] at h ⊢
    by_cases c2 : 0 < l.length ∧ (ofT nx tr0 l).2.root = -1
    · rw [if_pos c2] at h; cases h
    · rw [if_neg c2] at h ⊢
      exact fun z => c2 ⟨hl, z⟩
  · rw [if_pos c1] at h; exact absurd h c1
theorem tree_none (nx : Int → Option Int) : treeOf nx [] = (0, tr0) := by
  unfold treeOf; rw [ofT_nil]; rfl
theorem depth_le {t : Tr} (n : Int) : t.depth n ≤ t.up.length := by
  by_cases h : 0 ≤ t.depth n
  · obtain ⟨_, k, hk, e⟩ := depth_ge h
    have := rch_le hk
    omega
  · omega
theorem depth_neg {t : Tr} {n : Int} (h : ¬ 0 ≤ t.depth n) : t.depth n = -1 := by
  unfold Tr.depth at h ⊢
  by_cases hr : t.root = -1
  · rw [if_pos hr]
  · rw [if_neg hr] at h ⊢
    by_cases q : ∃ k, t.rch k n
    · obtain ⟨k, hk⟩ := q
      have := rch_le hk
      rw [dep_yes _ k 0 n hk (by omega)] at h
      omega
    · exact dep_no _ _ _ (fun k hk => q ⟨k, hk⟩)
theorem depth_root {t : Tr} (h : t.root ≠ -1) : t.depth t.root = 0 := by
  have := depth_yes (t := t) (n := t.root) (k := 0) h rfl
  rw [this]; rfl
end Go.Proofs.YtefaigdanoninaaDoor
