/- Down from the root of a tree, whoever is met: plain lists. No program in sight. -/
import Derived.Test.YtkkkldglceiiiaaGreatTrMath
namespace Go.Proofs.YtkkkldglceiiiaaGreat
set_option linter.unusedVariables false

/-- Of those that came, who tells one. -/
def chl (up : List (Int × Int)) (D : List Int) (k : Int) : List Int := D.filter (fun n => decide (lookI up n = some k))
theorem mem_chl {up : List (Int × Int)} {D : List Int} {k x : Int} : x ∈ chl up D k ↔ x ∈ D ∧ lookI up x = some k := by simp [chl]
theorem chl_yes {up : List (Int × Int)} {D : List Int} {k n : Int} (h : lookI up n = some k) : chl up (D ++ [n]) k = chl up D k ++ [n] := by simp [chl, h]
theorem chl_no {up : List (Int × Int)} {D : List Int} {k n : Int} (h : lookI up n ≠ some k) : chl up (D ++ [n]) k = chl up D k := by simp [chl, h]
theorem chl_nodup {up : List (Int × Int)} {D : List Int} (h : D.Nodup) (k : Int) : (chl up D k).Nodup := h.filter _
theorem chl_len (up : List (Int × Int)) (D : List Int) (k : Int) : (chl up D k).length ≤ D.length := List.length_filter_le _ _

/-- Who was met when i of them have been looked at. -/
structure Met (t : Tr) (D M : List Int) (i : Nat) : Prop where
  eq : M = (t.root :: M.take i).flatMap (chl t.up D)
  nd : M.Nodup
  rc : ∀ x ∈ M, ∃ k, t.rch k x
theorem Met.start {t : Tr} {D : List Int} (hd : D.Nodup) (hr : lookI t.up t.root = none) : Met t D (chl t.up D t.root) 0 := by
  refine ⟨by simp, chl_nodup hd _, fun x hx => ?_⟩
  have h := (mem_chl.1 hx).2
  have hne : x ≠ t.root := fun e => by rw [e, hr] at h; cases h
  exact ⟨1, hne, _, h, rfl⟩
theorem Met.has {t : Tr} {D M : List Int} {i : Nat} (h : Met t D M i) {x : Int} (hx : x ∈ M) : x ∈ D ∧ ∃ p, (p = t.root ∨ p ∈ M.take i) ∧ lookI t.up x = some p := by
  rw [h.eq] at hx
  obtain ⟨p, hp, hq⟩ := List.mem_flatMap.1 hx
  rw [mem_chl] at hq
  exact ⟨hq.1, p, List.mem_cons.1 hp, hq.2⟩
theorem Met.step {t : Tr} {D M : List Int} {i : Nat} (h : Met t D M i) (hd : D.Nodup) (hr : lookI t.up t.root = none) (hi : i < M.length) : Met t D (M ++ chl t.up D (M.getD i 0)) (i + 1) := by
  have hy : M.getD i 0 = M[i] := by rw [List.getD_eq_getElem?_getD, List.getElem?_eq_getElem hi]; rfl
  rw [hy]
  have ht : M.take (i + 1) = M.take i ++ [M[i]] := List.take_succ_eq_append_getElem hi
  have hym : M[i] ∈ M := List.getElem_mem hi
  obtain ⟨_, p, _, hp⟩ := h.has hym
  have hyr : M[i] ≠ t.root := fun e => by rw [e, hr] at hp; cases hp
  have hout : M[i] ∉ M.take i := fun hm => by
    have hs : (M.take (i + 1)).Nodup := h.nd.sublist (List.take_sublist _ _)
    rw [ht] at hs
    exact (List.nodup_append.1 hs).2.2 _ hm _ (by simp) rfl
  refine ⟨?_, ?_, ?_⟩
  · rw [List.take_append_of_le_length (by omega), ht, ← List.cons_append, List.flatMap_append, ← h.eq]
    simp
  · refine List.nodup_append.2 ⟨h.nd, chl_nodup hd _, fun a ha b hb e => ?_⟩
    subst e
    obtain ⟨_, q, hq, hq2⟩ := h.has ha
    rw [(mem_chl.1 hb).2] at hq2
    have e2 : M[i] = q := Option.some.inj hq2
    rcases hq with e | hm
    · exact hyr (e2.trans e)
    · rw [← e2] at hm; exact hout hm
  · intro x hx
    rcases List.mem_append.1 hx with hx | hx
    · exact h.rc x hx
    · obtain ⟨k, hk⟩ := h.rc _ hym
      have hl := (mem_chl.1 hx).2
      have hne : x ≠ t.root := fun e => by rw [e, hr] at hl; cases hl
      exact ⟨k + 1, hne, _, hl, hk⟩
theorem Met.len {t : Tr} {D M : List Int} {i : Nat} (h : Met t D M i) : M.length ≤ D.length := nodup_le M D h.nd (fun x hx => (h.has hx).1)
/-- Of how many one comes to the root. -/
noncomputable def belN (t : Tr) : Nat := by classical exact ((t.up.map (·.1)).filter (fun x => decide (∃ k, t.rch k x))).length
theorem belN_le (t : Tr) : belN t ≤ t.up.length := by
  classical
  unfold belN
  have := List.length_filter_le (fun x => decide (∃ k, t.rch k x)) (t.up.map (·.1))
  rw [List.length_map] at this
  exact this
theorem belN_all {t : Tr} (h : ∀ x, x ∈ t.up.map (·.1) → ∃ k, t.rch k x) : belN t = t.up.length := by
  classical
  unfold belN
  rw [List.filter_eq_self.2 (fun x hx => by simpa using h x hx), List.length_map]
theorem belN_few {t : Tr} {x : Int} (hx : x ∈ t.up.map (·.1)) (h : ∀ k, ¬ t.rch k x) : belN t < t.up.length := by
  classical
  unfold belN
  have h1 : ((t.up.map (·.1)).filter (fun x => decide (∃ k, t.rch k x))).length < (t.up.map (·.1)).length :=
    List.length_filter_lt_length_iff_exists.2 ⟨x, hx, by simpa using h⟩
  rw [List.length_map] at h1
  exact h1
/-- At the end. -/
theorem Met.num {t : Tr} {D M : List Int} (h : Met t D M M.length) (hn : (t.up.map (·.1)).Nodup) (hr : lookI t.up t.root = none) (hD : ∀ x, x ∈ D ↔ x ∈ t.up.map (·.1)) : M.length = belN t := by
  classical
  have hsub : ∀ x, x ∈ M → x ∈ t.up.map (·.1) := fun x hx => (hD x).1 (h.has hx).1
  have hin : ∀ (k : Nat) (x : Int), t.rch k x → x ∈ t.up.map (·.1) → x ∈ M := by
    intro k
    induction k with
    | zero =>
      intro x hx hk
      have hx : x = t.root := hx
      rw [hx] at hk
      exact absurd hk (lookI_none.1 hr)
    | succ k ih =>
      rintro x ⟨hne, v, hv, hk⟩ hx
      have hp : v = t.root ∨ v ∈ M := by
        cases k with
        | zero => exact .inl hk
        | succ k =>
          obtain ⟨_, u, hu, _⟩ := id hk
          exact .inr (ih v hk (List.mem_map.2 ⟨_, lookI_some hu, rfl⟩))
      rw [h.eq, List.take_length]
      exact List.mem_flatMap.2 ⟨v, List.mem_cons.2 hp, mem_chl.2 ⟨(hD x).2 hx, hv⟩⟩
  unfold belN
  refine Nat.le_antisymm (nodup_le _ _ h.nd (fun x hx => List.mem_filter.2 ⟨hsub x hx, by simpa using h.rc x hx⟩)) (nodup_le _ _ (hn.filter _) (fun x hx => ?_))
  obtain ⟨h1, h2⟩ := List.mem_filter.1 hx
  obtain ⟨k, hk⟩ := of_decide_eq_true h2
  exact hin k x hk h1
end Go.Proofs.YtkkkldglceiiiaaGreat
