/- What several want, as a sum: joinE and the list of all filters that are named. -/
import Derived.Test.YtffdknjocmfmfaaTbMath
namespace Go.Proofs.Ytffdknjocmfmfaa
set_option linter.unusedVariables false

/-- Too many: seventeen that differ. -/
theorem joinF_none {acc fs : List ByteArray} (h : Asc ltS acc) (hl : acc.length ≤ 16) (hj : joinF acc fs = none) : ∃ L : List ByteArray, L.Nodup ∧ L.length = 17 ∧ ∀ x ∈ L, x ∈ acc ∨ x ∈ fs := by
  induction fs generalizing acc with
  | nil => simp [joinF] at hj
  | cons f fs ih =>
    unfold joinF at hj
    split at hj
    · obtain ⟨L, h1, h2, h3⟩ := ih h hl hj
      exact ⟨L, h1, h2, fun x hx => (h3 x hx).imp id (List.mem_cons_of_mem _)⟩
    · rename_i hh
      have hf : f ∉ acc := fun q => hh ((hasS_iff acc f).2 q)
      split at hj
      · rename_i h16
        refine ⟨f :: acc, List.nodup_cons.2 ⟨hf, asc_nodup linS h⟩, by simp [h16], fun x hx => ?_⟩
        rcases List.mem_cons.1 hx with rfl | q
        · exact .inr (List.mem_cons_self ..)
        · exact .inl q
      · rename_i h16
        obtain ⟨L, h1, h2, h3⟩ := ih (asc_putIn linS acc h f hf) (by rw [len_putIn]; omega) hj
        refine ⟨L, h1, h2, fun x hx => ?_⟩
        rcases h3 x hx with q | q
        · rcases (mem_putIn acc f x).1 q with rfl | q
          · exact .inr (List.mem_cons_self ..)
          · exact .inl q
        · exact .inr (List.mem_cons_of_mem _ q)
theorem joinE_some {W : List (Bool × List ByteArray)} {acc r : List ByteArray} (h : Asc ltS acc) (hl : acc.length ≤ 16) (hj : joinE acc W = some r) : (∀ x ∈ W, x.1 = false) ∧ Asc ltS r ∧ r.length ≤ 16 ∧ ∀ f, f ∈ r ↔ f ∈ acc ∨ ∃ x ∈ W, f ∈ x.2 := by
  induction W generalizing acc with
  | nil => simp [joinE] at hj; subst hj; exact ⟨(fun x hx => by cases hx), h, hl, fun f => by simp⟩
  | cons y W ih =>
    unfold joinE at hj
    split at hj
    · cases hj
    · rename_i hy
      split at hj
      · cases hj
      · rename_i acc' ha
        obtain ⟨a1, a2, a3⟩ := joinF_asc h hl ha
        obtain ⟨b1, b2, b3, b4⟩ := ih a1 a2 hj
        refine ⟨fun x hx => ?_, b2, b3, fun f => ?_⟩
        · rcases List.mem_cons.1 hx with rfl | q
          · simpa using hy
          · exact b1 x q
        · rw [b4 f, a3 f]
          constructor
          · rintro ((q | q) | ⟨x, hx, q⟩)
            · exact .inl q
            · exact .inr ⟨y, List.mem_cons_self .., q⟩
            · exact .inr ⟨x, List.mem_cons_of_mem _ hx, q⟩
          · rintro (q | ⟨x, hx, q⟩)
            · exact .inl (.inl q)
            · rcases List.mem_cons.1 hx with rfl | hx
              · exact .inl (.inr q)
              · exact .inr ⟨x, hx, q⟩
theorem joinE_none {W : List (Bool × List ByteArray)} {acc : List ByteArray} (h : Asc ltS acc) (hl : acc.length ≤ 16) (hj : joinE acc W = none) : (∃ x ∈ W, x.1 = true) ∨ ∃ L : List ByteArray, L.Nodup ∧ L.length = 17 ∧ ∀ f ∈ L, f ∈ acc ∨ ∃ x ∈ W, f ∈ x.2 := by
  induction W generalizing acc with
  | nil => simp [joinE] at hj
  | cons y W ih =>
    unfold joinE at hj
    split at hj
    · rename_i hy
      exact .inl ⟨y, List.mem_cons_self .., hy⟩
    · split at hj
      · rename_i ha
        obtain ⟨L, h1, h2, h3⟩ := joinF_none h hl ha
        exact .inr ⟨L, h1, h2, fun f hf => (h3 f hf).imp id (fun q => ⟨y, List.mem_cons_self .., q⟩)⟩
      · rename_i acc' ha
        obtain ⟨a1, a2, a3⟩ := joinF_asc h hl ha
        rcases ih a1 a2 hj with ⟨x, hx, q⟩ | ⟨L, h1, h2, h3⟩
        · exact .inl ⟨x, List.mem_cons_of_mem _ hx, q⟩
        · refine .inr ⟨L, h1, h2, fun f hf => ?_⟩
          rcases h3 f hf with q | ⟨x, hx, q⟩
          · rcases (a3 f).1 q with q | q
            · exact .inl q
            · exact .inr ⟨y, List.mem_cons_self .., q⟩
          · exact .inr ⟨x, List.mem_cons_of_mem _ hx, q⟩
/-- All filters that are named, each once. -/
structure AllF (W : List (Bool × List ByteArray)) (any : Bool) (all : List ByteArray) : Prop where
  any_iff : any = true ↔ ∃ x ∈ W, x.1 = true
  nd : all.Nodup
  mem : ∀ f, f ∈ all ↔ ∃ x ∈ W, f ∈ x.2
theorem AllF.many {W : List (Bool × List ByteArray)} {any : Bool} {all : List ByteArray} (h : AllF W any all) (hm : any = true ∨ 16 < all.length) : joinE [] W = none := by
  cases hj : joinE [] W with
  | none => rfl
  | some r =>
    exfalso
    obtain ⟨b1, b2, b3, b4⟩ := joinE_some List.Pairwise.nil (by simp) hj
    rcases hm with q | q
    · obtain ⟨x, hx, e⟩ := h.any_iff.1 q
      rw [b1 x hx] at e; cases e
    · have := h.nd.length_le_of_subset (fun f hf => (b4 f).2 (.inr ((h.mem f).1 hf)))
      omega
theorem AllF.few {W : List (Bool × List ByteArray)} {any : Bool} {all : List ByteArray} (h : AllF W any all) (ha : any = false) (hl : all.length ≤ 16) : ∃ r, joinE [] W = some r ∧ Asc ltS r ∧ r.length = all.length := by
  cases hj : joinE [] W with
  | none =>
    exfalso
    rcases joinE_none List.Pairwise.nil (by simp) hj with q | ⟨L, h1, h2, h3⟩
    · rw [h.any_iff.2 q] at ha; cases ha
    · have := h1.length_le_of_subset (fun f hf => (h.mem f).2 ((h3 f hf).resolve_left (by simp)))
      omega
  | some r =>
    obtain ⟨b1, b2, b3, b4⟩ := joinE_some List.Pairwise.nil (by simp) hj
    have l1 := h.nd.length_le_of_subset (fun f hf => (b4 f).2 (.inr ((h.mem f).1 hf)))
    have l2 := (asc_nodup linS b2).length_le_of_subset (fun f hf => (h.mem f).2 (((b4 f).1 hf).resolve_left (by simp)))
    exact ⟨r, rfl, b2, by omega⟩
theorem AllF.nil : AllF [] false [] := ⟨by simp, List.Pairwise.nil, by simp⟩
/-- While one entry's filters are told: the first k of them. -/
theorem AllF.step {W : List (Bool × List ByteArray)} {any : Bool} {all : List ByteArray} {b : Bool} {fs : List ByteArray} {f : ByteArray} (h : AllF (W ++ [(b, fs)]) any all) : AllF (W ++ [(b, fs ++ [f])]) any (if hasS all f then all else all ++ [f]) := by
  refine ⟨?_, ?_, fun g => ?_⟩
  · rw [h.any_iff]; simp
  · split
    · exact h.nd
    · rename_i q
      have hf : f ∉ all := fun e => q ((hasS_iff all f).2 e)
      rw [List.nodup_append]
      exact ⟨h.nd, by simp, fun a ha b hb e => hf (by rw [← List.mem_singleton.1 hb, ← e]; exact ha)⟩
  · have hm := h.mem g
    simp only [List.mem_append, List.mem_singleton] at hm ⊢
    have hq : (g ∈ (if hasS all f then all else all ++ [f])) ↔ (g ∈ all ∨ g = f) := by
      split
      · rename_i q
        have := (hasS_iff all f).1 q
        constructor
        · exact .inl
        · rintro (e | rfl)
          · exact e
          · exact this
      · simp
    rw [hq, hm]
    constructor
    · rintro (⟨x, hx | rfl, e⟩ | rfl)
      · exact ⟨x, .inl hx, e⟩
      · exact ⟨_, .inr rfl, by simp [show g ∈ fs from e]⟩
      · exact ⟨_, .inr rfl, by simp⟩
    · rintro ⟨x, hx | rfl, e⟩
      · exact .inl ⟨x, .inl hx, e⟩
      · rcases List.mem_append.1 (show g ∈ fs ++ [f] from e) with q | q
        · exact .inl ⟨_, .inr rfl, q⟩
        · exact .inr (List.mem_singleton.1 q)
theorem AllF.entry {W : List (Bool × List ByteArray)} {any : Bool} {all : List ByteArray} (h : AllF W any all) (b : Bool) : AllF (W ++ [(b, [])]) (any || b) all := by
  refine ⟨?_, h.nd, fun g => ?_⟩
  · have := h.any_iff
    cases any <;> cases b <;> simp_all
  · rw [h.mem g]; simp
end Go.Proofs.Ytffdknjocmfmfaa
