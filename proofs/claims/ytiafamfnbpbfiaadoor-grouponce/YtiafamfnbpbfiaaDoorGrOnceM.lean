/- An event's groups: how many, and each once. No program's walk in sight. -/
import Derived.Test.YtiafamfnbpbfiaaDoorGrCount
namespace Go.Proofs.YtiafamfnbpbfiaaDoor
open Go.RowKit
set_option linter.unusedVariables false

theorem val_cell {a : At} {v : Vl} {n : Nat} (hn : n ≤ 8) (ha : AttrOk a) (hv : ValOk a v) : 0 ≤ cellOf a v n ∧ cellOf a v n < ((2 ^ n : Nat) : Int) := by
  refine ⟨?_, cellOf_hi _ _ _ hn⟩
  rcases hv with ⟨k, h1, h2, _⟩ | ⟨k, _, _⟩
  · have hk : -2147483648 ≤ a.mn ∧ a.mx ≤ 2147483648 := by
      rcases ha.2 with h | h
      · exact ⟨h.2.1, h.2.2.2⟩
      · omega
    exact (rise_num (v := v) (u := v) hn k hk.1 hk.2 h1 (Int.le_refl _) h2).1
  · exact (rise_text (v := v) (u := v) hn (by omega) (Nat.le_refl _)).1
theorem chain_of_val {a : At} {v : Vl} {n : Nat} (hn : n ≤ 8) (ha : AttrOk a) (hv : ValOk a v) : ∃ c : Nat, chainOf (cellOf a v n) n = chain c n ∧ c < 2 ^ n := by
  obtain ⟨h1, h2⟩ := val_cell hn ha hv
  obtain ⟨c, hc⟩ : ∃ c : Nat, cellOf a v n = c := ⟨(cellOf a v n).toNat, by omega⟩
  rw [hc] at h2 ⊢
  have : c < 2 ^ n := by omega
  exact ⟨c, chainOf_nat hn this, this⟩
theorem rchAt_full {az : List At} {vs : List Vl} {m n i : Nat} (hn : n ≤ 8) (hs : SchemaOk az) (he : EventOk az vs m) (hi : i < az.length) : (rchAt az vs n i).length = n + 1 := by
  obtain ⟨c, hc, _⟩ := chain_of_val hn (hs.2.2 i hi).1 (he.2.2 i hi)
  unfold rchAt
  rw [List.length_map, hc, chain_len]
theorem reachs_full {az : List At} {vs : List Vl} {m n : Nat} (hn : n ≤ 8) (hs : SchemaOk az) (he : EventOk az vs m) : ∀ k, k ≤ az.length → (reachs az vs n k).length = k * (n + 1) := by
  intro k
  induction k with
  | zero => intro _; simp [reachs]
  | succ k ih =>
    intro hk
    rw [reachs, List.length_append, ih (by omega), rchAt_full hn hs he (by omega), Nat.add_mul]; omega
theorem gmap_nodup {a : ByteArray} (ha : NameOk a) : ∀ xs : List Iv, xs.Nodup → (∀ x ∈ xs, x.small) → (xs.map (gname a)).Nodup := by
  intro xs hn hs
  unfold List.Nodup at *
  rw [List.pairwise_map]
  refine List.Pairwise.imp_of_mem ?_ hn
  intro x y hx hy hne h
  exact hne (gname_same ha ha (hs x hx) (hs y hy) h).2
theorem reachs_nodup {az : List At} {vs : List Vl} {m n : Nat} (hn : n ≤ 8) (hs : SchemaOk az) (he : EventOk az vs m) : ∀ k, k ≤ az.length → (reachs az vs n k).Nodup ∧ ∀ s ∈ reachs az vs n k, ∃ i x, i < k ∧ Iv.small x ∧ s = gname (az.getD i at0).name x := by
  intro k
  induction k with
  | zero => intro _; exact ⟨List.nodup_nil, by simp [reachs]⟩
  | succ k ih =>
    intro hk
    obtain ⟨h1, h2⟩ := ih (by omega)
    obtain ⟨c, hc, hc2⟩ := chain_of_val hn (hs.2.2 k (by omega)).1 (he.2.2 k (by omega))
    have hmem : ∀ s ∈ rchAt az vs n k, ∃ x, Iv.small x ∧ s = gname (az.getD k at0).name x := fun s hsm => by
      unfold rchAt at hsm
      obtain ⟨x, hx, rfl⟩ := List.mem_map.1 hsm
      exact ⟨x, chainOf_small _ _ x hx, rfl⟩
    refine ⟨?_, ?_⟩
    · rw [reachs]
      refine List.nodup_append.2 ⟨h1, ?_, ?_⟩
      · unfold rchAt
        refine gmap_nodup (hs.2.2 k (by omega)).1.1 _ ?_ (chainOf_small _ _)
        rw [hc]; exact chain_nodup c n
      · intro s hs1 t ht1 e
        obtain ⟨i, x, hi, hx, rfl⟩ := h2 s hs1
        obtain ⟨y, hy, rfl⟩ := hmem t ht1
        exact (hs.2.2 k (by omega)).2 i hi (gname_same (hs.2.2 i (by omega)).1.1 (hs.2.2 k (by omega)).1.1 hx hy e).1
    · intro s hsm
      rw [reachs, List.mem_append] at hsm
      rcases hsm with h | h
      · obtain ⟨i, x, hi, hx, e⟩ := h2 s h
        exact ⟨i, x, by omega, hx, e⟩
      · obtain ⟨x, hx, e⟩ := hmem s h
        exact ⟨k, x, by omega, hx, e⟩
theorem nodup_get {l : List ByteArray} (h : l.Nodup) {i j : Nat} (hi : i < l.length) (hj : j < i) : l.getD i ByteArray.empty ≠ l.getD j ByteArray.empty := by
  have := List.pairwise_iff_getElem.1 h j i (by omega) hi hj
  simpa [List.getD, List.getElem?_eq_getElem hi, List.getElem?_eq_getElem (show j < l.length by omega)] using fun e => this e.symm
theorem ofs_few {az : List At} {f : List Pd} {n b k : Nat} (hn : n ≤ 8) (hs : SchemaOk az) (hf : FindAt az (f.getD b pd0).name k) (hp : PredOk (az.getD k at0) (f.getD b pd0)) : (ofs az f n b).length ≤ max 1 (2 * n - 2) := by
  unfold ofs
  rw [List.length_map]
  obtain ⟨h1, h2, h3, h4⟩ := rg_cells hn (hs.2.2 k hf.1).1 hf hp
  generalize rg az (f.getD b pd0) n = r at *
  obtain ⟨lo, hi⟩ := r
  simp only at *
  obtain ⟨lo, rfl⟩ : ∃ m : Nat, lo = m := ⟨lo.toNat, by omega⟩
  obtain ⟨hi, rfl⟩ : ∃ m : Nat, hi = m := ⟨hi.toNat, by omega⟩
  have g3 : lo < 2 ^ n := by omega
  have g4 : hi < 2 ^ n := by omega
  rw [coverOf_nat hn g3 g4]
  by_cases hl : lo ≤ hi
  · exact cover_few lo hi n hl g4
  · rw [cover_end lo hi n (by omega)]; simp
/-- How often they meet: at most once, and once where the filter takes the event. -/
theorem once_count {az : List At} {f : List Pd} {vs : List Vl} {m n b : Nat} (hn : n ≤ 8) (hs : SchemaOk az) (hF : FilterOk az f) (hb : b < f.length) :
    cntS (ofs az f n b) (reachs az vs n az.length) ≤ 1 ∧ (MatchOk az f vs m → cntS (ofs az f n b) (reachs az vs n az.length) = 1) ∧ (ofs az f n b).length ≤ max 1 (2 * n - 2) := by
  obtain ⟨_, k, hk, hp⟩ := hF.2.2 b hb
  rw [met_count hn hs hk hp]
  refine ⟨by split <;> omega, fun hM => ?_, ofs_few hn hs hk hp⟩
  obtain ⟨k', hk', ht⟩ := hM.2.2 b hb
  obtain rfl := hk.uniq hk'
  have := takes_cells hn (hs.2.2 k hk.1).1 hp (hM.2.1.2.2 k hk.1) ht
  have hrg : rg az (f.getD b pd0) n = rangeOf (az.getD k at0) (f.getD b pd0) n := by unfold rg; rw [posA_is hk]
  rw [hrg, if_pos ⟨this.2.1, this.2.2.1⟩]
end Go.Proofs.YtiafamfnbpbfiaaDoor
