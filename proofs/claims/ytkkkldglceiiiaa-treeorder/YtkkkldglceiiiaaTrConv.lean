/- Trees of those whose ways all end at one. No program in sight. -/
import Derived.Test.YtkkkldglceiiiaaTrMath
namespace Go.Proofs.Ytkkkldglceiiiaa
set_option linter.unusedVariables false

def itr (s : Int → Int) : Nat → Int → Int
  | 0, n => n
  | k + 1, n => itr s k (s n)
theorem itr_out (s : Int → Int) : ∀ (k : Nat) (n : Int), itr s (k + 1) n = s (itr s k n)
  | 0, n => rfl
  | k + 1, n => by show itr s (k + 1) (s n) = _; rw [itr_out s k (s n)]; rfl
theorem itr_fix (s : Int → Int) {r : Int} (h : s r = r) : ∀ k, itr s k r = r
  | 0 => rfl
  | k + 1 => by show itr s k (s r) = r; rw [h]; exact itr_fix s h k
/-- All ways end at one. -/
structure Conv (nx : Int → Option Int) (L : Int → Prop) (s : Int → Int) (r : Int) : Prop where
  nx : ∀ n, L n → nx n = some (s n)
  cl : ∀ n, L n → L (s n)
  fx : ∀ n, L n → s n = n → n = r
  en : ∀ n, L n → ∃ k, k < 60 ∧ itr s k n = r
  rt : s r = r ∧ L r ∧ r ≠ -1
section
variable {nx : Int → Option Int} {L : Int → Prop} {s : Int → Int} {r : Int}
theorem Conv.live (c : Conv nx L s r) {n : Int} (h : L n) : ∀ k, L (itr s k n) := fun k => by
  induction k with
  | zero => exact h
  | succ k ih => rw [itr_out]; exact c.cl _ ih
/-- Whose next one is of the tree, but maybe the one at which the walk stands. -/
def CloE (t : Tr) (cur : Int) : Prop := ∀ a v, lookI t.up a = some v → t.has v = true ∨ v = cur
def Clo (t : Tr) : Prop := ∀ a v, lookI t.up a = some v → t.has v = true
theorem has_inT {t : Tr} {n : Int} : t.has n = true ↔ t.inT n := by
  rw [Tr.has_iff]; unfold Tr.inT; exact Or.comm
structure TrL (nx : Int → Option Int) (L : Int → Prop) (t : Tr) : Prop where
  ok : TrOk nx t
  li : ∀ n, t.inT n → L n
theorem Conv.in_all (c : Conv nx L s r) {t : Tr} (ht : TrL nx L t) (hc : Clo t) {n : Int} (hn : t.inT n) : ∀ k, t.inT (itr s k n) := fun k => by
  induction k with
  | zero => exact hn
  | succ k ih =>
    rw [itr_out]
    rcases ih with ⟨h1, h2⟩ | ⟨v, hv⟩
    · have := ht.ok.rt h1
      rw [← h2] at this
      rw [c.nx _ (ht.li _ (.inl ⟨h1, h2⟩))] at this
      rw [Option.some.inj this]
      exact .inl ⟨h1, h2⟩
    · have h1 := (ht.ok.st _ _ hv).1
      rw [c.nx _ (ht.li _ (.inr ⟨v, hv⟩))] at h1
      rw [Option.some.inj h1]
      exact has_inT.1 (hc _ _ hv)
theorem Conv.root_in (c : Conv nx L s r) {t : Tr} (ht : TrL nx L t) (h : t.inT r) : t.root = r := by
  rcases h with ⟨_, h⟩ | ⟨v, hv⟩
  · exact h.symm
  · have := ht.ok.st _ _ hv
    rw [c.nx _ c.rt.2.1, c.rt.1] at this
    exact absurd (Option.some.inj this.1).symm this.2
theorem Conv.root_is (c : Conv nx L s r) {t : Tr} (ht : TrL nx L t) (h : t.root ≠ -1) : t.root = r := by
  have hl := ht.li _ (.inl ⟨h, rfl⟩)
  have := ht.ok.rt h
  rw [c.nx _ hl] at this
  exact c.fx _ hl (Option.some.inj this)
theorem Conv.walk (c : Conv nx L s r) : ∀ (k f : Nat) (t : Tr) (n : Int), L n → itr s k n = r → k < f → TrL nx L t → CloE t n →
    ∃ t', walkT nx f t n = (0, t') ∧ TrL nx L t' ∧ Clo t' ∧ t'.root = r ∧ ∀ a, t'.inT a ↔ t.inT a ∨ ∃ j, a = itr s j n := by
  intro k
  induction k with
  | zero =>
    intro f t n hn hk hf ht hc
    obtain ⟨f, rfl⟩ : ∃ g, f = g + 1 := ⟨f - 1, by omega⟩
    have hnr : n = r := hk
    subst hnr
    have hs := c.rt.1
    cases hh : t.has n with
    | true =>
      have hi := has_inT.1 hh
      refine ⟨t, by simp [walkT, hh], ht, fun a v hv => (hc a v hv).elim id (fun e => by rw [e]; exact hh), c.root_in ht hi, fun a => ⟨.inl, ?_⟩⟩
      rintro (h | ⟨j, rfl⟩)
      · exact h
      · rw [itr_fix s hs]; exact hi
    | false =>
      have hroot : t.root = -1 := by
        apply Classical.byContradiction
        intro h
        have := has_inT.2 (show t.inT n from .inl ⟨h, (c.root_is ht h).symm⟩)
        rw [hh] at this; cases this
      refine ⟨⟨n, t.up⟩, by simp [walkT, hh, c.nx n hn, hs, hroot], ⟨ht.ok.made (by rw [c.nx n hn, hs]), ?_⟩, fun a v hv => ?_, rfl, fun a => ?_⟩
      · rintro a (⟨_, h2⟩ | ⟨v, hv⟩)
        · rw [h2]; exact hn
        · exact ht.li _ (.inr ⟨v, hv⟩)
      · rcases hc a v hv with h | h
        · rcases Tr.has_iff.1 h with h | ⟨h, _⟩
          · exact Tr.has_iff.2 (.inl h)
          · exact absurd hroot h
        · rw [h]; exact Tr.has_iff.2 (.inr ⟨c.rt.2.2, rfl⟩)
      · constructor
        · rintro (⟨_, h2⟩ | h)
          · exact .inr ⟨0, h2⟩
          · exact .inl (.inr h)
        · rintro (h | ⟨j, rfl⟩)
          · rcases h with ⟨h, _⟩ | h
            · exact absurd hroot h
            · exact .inr h
          · rw [itr_fix s hs]; exact .inl ⟨c.rt.2.2, rfl⟩
  | succ k ih =>
    intro f t n hn hk hf ht hc
    obtain ⟨f, rfl⟩ : ∃ g, f = g + 1 := ⟨f - 1, by omega⟩
    cases hh : t.has n with
    | true =>
      have hi := has_inT.1 hh
      have hcl : Clo t := fun a v hv => (hc a v hv).elim id (fun e => by rw [e]; exact hh)
      have hall := c.in_all ht hcl hi
      refine ⟨t, by simp [walkT, hh], ht, hcl, c.root_in ht (by have := hall (k + 1); rw [hk] at this; exact this), fun a => ⟨.inl, ?_⟩⟩
      rintro (h | ⟨j, rfl⟩)
      · exact h
      · exact hall j
    | false =>
      by_cases hs : s n = n
      · -- it is its own next: it is the one
        have hnr := c.fx n hn hs
        have := itr_fix s hs k
        have hk0 : itr s 0 n = r := hnr
        have hroot : t.root = -1 := by
          apply Classical.byContradiction
          intro h
          have := has_inT.2 (show t.inT n from .inl ⟨h, by rw [c.root_is ht h]; exact hnr⟩)
          rw [hh] at this; cases this
        refine ⟨⟨n, t.up⟩, by simp [walkT, hh, c.nx n hn, hs, hroot], ⟨ht.ok.made (by rw [c.nx n hn, hs]), ?_⟩, fun a v hv => ?_, hnr, fun a => ?_⟩
        · rintro a (⟨_, h2⟩ | ⟨v, hv⟩)
          · rw [h2]; exact hn
          · exact ht.li _ (.inr ⟨v, hv⟩)
        · have hne : n ≠ -1 := by rw [hnr]; exact c.rt.2.2
          rcases hc a v hv with h | h
          · rcases Tr.has_iff.1 h with h | ⟨h, _⟩
            · exact Tr.has_iff.2 (.inl h)
            · exact absurd hroot h
          · rw [h]; exact Tr.has_iff.2 (.inr ⟨hne, rfl⟩)
        · have hne : n ≠ -1 := by rw [hnr]; exact c.rt.2.2
          constructor
          · rintro (⟨_, h2⟩ | h)
            · exact .inr ⟨0, h2⟩
            · exact .inl (.inr h)
          · rintro (h | ⟨j, rfl⟩)
            · rcases h with ⟨h, _⟩ | h
              · exact absurd hroot h
              · exact .inr h
            · rw [itr_fix s hs]; exact .inl ⟨hne, rfl⟩
      · have hno := Tr.has_no hh
        have hlk : ∀ a, lookI (t.up ++ [(n, s n)]) a = if a = n then some (s n) else lookI t.up a := fun a => lookI_snoc _ _ _ _ hno.1
        have hin : ∀ a, (⟨t.root, t.up ++ [(n, s n)]⟩ : Tr).inT a ↔ t.inT a ∨ a = n := fun a => by
          unfold Tr.inT
          simp only [hlk]
          by_cases e : a = n
          · subst e; simp
          · simp [e]
        have ht' : TrL nx L ⟨t.root, t.up ++ [(n, s n)]⟩ := ⟨ht.ok.put hh (c.nx n hn) hs, fun a ha => ((hin a).1 ha).elim (ht.li a) (fun e => by rw [e]; exact hn)⟩
        have hc' : CloE ⟨t.root, t.up ++ [(n, s n)]⟩ (s n) := fun a v hv => by
          simp only [hlk] at hv
          by_cases e : a = n
          · rw [if_pos e] at hv; exact .inr (Option.some.inj hv).symm
          · rw [if_neg e] at hv
            refine .inl (has_inT.2 ((hin v).2 ?_))
            rcases hc a v hv with h | h
            · exact .inl (has_inT.1 h)
            · exact .inr h
        obtain ⟨t', h1, h2, h3, h4, h5⟩ := ih f _ (s n) (c.cl n hn) hk (by omega) ht' hc'
        refine ⟨t', by simp only [walkT, hh, Bool.false_eq_true, if_false, c.nx n hn, if_neg hs]; exact h1, h2, h3, h4, fun a => ?_⟩
        rw [h5, hin]
        constructor
        · rintro ((h | h) | ⟨j, h⟩)
          · exact .inl h
          · exact .inr ⟨0, h⟩
          · exact .inr ⟨j + 1, h⟩
        · rintro (h | ⟨j, h⟩)
          · exact .inl (.inl h)
          · cases j with
            | zero => exact .inl (.inr h)
            | succ j => exact .inr ⟨j, h⟩
theorem Conv.of (c : Conv nx L s r) : ∀ (ms : List Int) (t : Tr), (∀ m ∈ ms, L m) → TrL nx L t → Clo t →
    ∃ t', ofT nx t ms = (0, t') ∧ TrL nx L t' ∧ Clo t' ∧ (ms ≠ [] → t'.root = r) ∧ (ms = [] → t' = t) ∧ ∀ a, t'.inT a ↔ t.inT a ∨ ∃ m ∈ ms, ∃ j, a = itr s j m
  | [], t, _, ht, hc => ⟨t, ofT_nil _ _, ht, hc, fun h => absurd rfl h, fun _ => rfl, fun a => by simp⟩
  | m :: ms, t, hl, ht, hc => by
    obtain ⟨k, hk, hr⟩ := c.en m (hl m (by simp))
    obtain ⟨t1, w1, l1, c1, r1, i1⟩ := c.walk k 66 t m (hl m (by simp)) hr (by omega) ht (fun a v hv => .inl (hc a v hv))
    obtain ⟨t2, w2, l2, c2, r2, e2, i2⟩ := c.of ms t1 (fun x hx => hl x (by simp [hx])) l1 c1
    refine ⟨t2, by rw [ofT_cons, w1, if_pos rfl]; exact w2, l2, c2, fun _ => ?_, fun h => (by cases h), fun a => ?_⟩
    · by_cases h : ms = []
      · rw [e2 h]; exact r1
      · exact r2 h
    · rw [i2, i1]
      constructor
      · rintro ((h | h) | ⟨x, hx, h⟩)
        · exact .inl h
        · exact .inr ⟨m, by simp, h⟩
        · exact .inr ⟨x, by simp [hx], h⟩
      · rintro (h | ⟨x, hx, h⟩)
        · exact .inl (.inl h)
        · rcases List.mem_cons.1 hx with rfl | hx
          · exact .inl (.inr h)
          · exact .inr ⟨x, hx, h⟩
/-- What a tree of members is whose ways all end at one. -/
structure TrIs (nx : Int → Option Int) (s : Int → Int) (r : Int) (ms : List Int) (t : Tr) : Prop where
  ok : TrOk nx t
  root : t.root = if ms = [] then -1 else r
  nodes : ∀ a, t.inT a ↔ ∃ m ∈ ms, ∃ j, a = itr s j m
  up : ∀ a v, lookI t.up a = some v ↔ t.inT a ∧ a ≠ r ∧ v = s a
theorem Conv.zero (nx : Int → Option Int) (L : Int → Prop) : TrL nx L tr0 ∧ Clo tr0 := by
  refine ⟨⟨TrOk.zero nx, ?_⟩, fun a v h => by simp [tr0, lookI] at h⟩
  rintro n (⟨h, _⟩ | ⟨v, h⟩)
  · exact absurd rfl h
  · simp [tr0, lookI] at h
theorem Conv.tree (c : Conv nx L s r) (ms : List Int) (hl : ∀ m ∈ ms, L m) : (treeOf nx ms).1 = 0 ∧ TrIs nx s r ms (treeOf nx ms).2 := by
  obtain ⟨z1, z2⟩ := Conv.zero nx L
  obtain ⟨t, h1, h2, h3, h4, h5, h6⟩ := c.of ms tr0 hl z1 z2
  have hz : ∀ a, ¬ tr0.inT a := by
    rintro a (⟨h, _⟩ | ⟨v, h⟩)
    · exact h rfl
    · simp [tr0, lookI] at h
  have hr : t.root = if ms = [] then -1 else r := by
    by_cases e : ms = []
    · rw [if_pos e, h5 e]; rfl
    · rw [if_neg e]; exact h4 e
  have ht : treeOf nx ms = (0, t) := by
    unfold treeOf
    rw [h1]
    rw [if_neg (by simp), if_neg]
    rintro ⟨p, q⟩
    have : ms ≠ [] := fun e => by rw [e] at p; simp at p
    rw [if_neg this] at hr
    exact c.rt.2.2 (hr ▸ q)
  rw [ht]
  refine ⟨rfl, h2.ok, hr, fun a => by rw [h6]; exact ⟨fun h => h.resolve_left (hz a), .inr⟩, fun a v => ?_⟩
  constructor
  · intro hv
    have hi : t.inT a := .inr ⟨v, hv⟩
    have := h2.ok.st _ _ hv
    rw [c.nx a (h2.li a hi)] at this
    have hsv := Option.some.inj this.1
    refine ⟨hi, fun e => ?_, hsv.symm⟩
    rw [e, c.rt.1] at hsv
    exact this.2 (by rw [e]; exact hsv.symm)
  · rintro ⟨hi, hne, rfl⟩
    rcases hi with ⟨q1, q2⟩ | ⟨v, hv⟩
    · rw [q2] at hne
      exact absurd (c.root_is h2 q1) hne
    · have := h2.ok.st _ _ hv
      rw [c.nx a (h2.li a (.inr ⟨v, hv⟩))] at this
      rw [hv, Option.some.inj this.1]
/-- Of members one of whom isn't there, nothing. -/
theorem Conv.dead (c : Conv nx L s r) (hno : ∀ n, ¬ L n → nx n = none) : ∀ (ms : List Int) (t : Tr), TrL nx L t → Clo t → (∃ m ∈ ms, ¬ L m) → (ofT nx t ms).1 = 6
  | [], t, _, _, ⟨m, hm, _⟩ => by cases hm
  | m :: ms, t, ht, hc, ⟨x, hx, hxl⟩ => by
    rw [ofT_cons]
    by_cases hm : L m
    · obtain ⟨k, hk, hr⟩ := c.en m hm
      obtain ⟨t1, w1, l1, c1, _, _⟩ := c.walk k 66 t m hm hr (by omega) ht (fun a v hv => .inl (hc a v hv))
      rw [w1, if_pos rfl]
      refine c.dead hno ms t1 l1 c1 ⟨x, ?_, hxl⟩
      rcases List.mem_cons.1 hx with rfl | h
      · exact absurd hm hxl
      · exact h
    · have hh : t.has m = false := by
        cases q : t.has m with
        | false => rfl
        | true => exact absurd (ht.li _ (has_inT.1 q)) hm
      have : walkT nx 66 t m = (6, t) := by simp [walkT, hh, hno m hm]
      rw [this]; simp
theorem Conv.tree_dead (c : Conv nx L s r) (hno : ∀ n, ¬ L n → nx n = none) (ms : List Int) (h : ∃ m ∈ ms, ¬ L m) : (treeOf nx ms).1 = 6 := by
  obtain ⟨z1, z2⟩ := Conv.zero nx L
  have := c.dead hno ms tr0 z1 z2 h
  unfold treeOf
  rw [if_pos (by rw [this]; decide)]
  exact this
/-- So many steps up to the root. -/
theorem TrIs.rch (c : Conv nx L s r) {ms : List Int} {t : Tr} (h : TrIs nx s r ms t) (hne : ms ≠ []) : ∀ (k : Nat) (a : Int), t.inT a → (t.rch k a ↔ itr s k a = r ∧ ∀ j, j < k → itr s j a ≠ r)
  | 0, a, _ => by
    show a = t.root ↔ _
    rw [h.root, if_neg hne]
    exact ⟨fun e => ⟨e, fun j hj => absurd hj (Nat.not_lt_zero _)⟩, fun e => e.1⟩
  | k + 1, a, ha => by
    have hin : t.inT (s a) := by
      obtain ⟨m, hm, j, e⟩ := (h.nodes a).1 ha
      exact (h.nodes _).2 ⟨m, hm, j + 1, by rw [itr_out, e]⟩
    have ih := h.rch c hne k (s a) hin
    constructor
    · rintro ⟨h1, v, hv, h2⟩
      obtain ⟨_, h4, rfl⟩ := (h.up _ _).1 hv
      obtain ⟨i1, i2⟩ := ih.1 h2
      refine ⟨i1, fun j hj => ?_⟩
      cases j with
      | zero => exact h4
      | succ j => exact i2 j (by omega)
    · rintro ⟨h1, h2⟩
      have h3 : a ≠ r := h2 0 (by omega)
      refine ⟨by rw [h.root, if_neg hne]; exact h3, s a, (h.up _ _).2 ⟨ha, h3, rfl⟩, ih.2 ⟨h1, fun j hj => h2 (j + 1) (by omega)⟩⟩
/-- Trees that both have a node have it as deep. -/
theorem TrIs.depth_same (c : Conv nx L s r) {ms ns : List Int} {t u : Tr} (h : TrIs nx s r ms t) (h' : TrIs nx s r ns u) {a : Int} (ha : t.inT a) (hb : u.inT a) : t.depth a = u.depth a := by
  have n1 : ms ≠ [] := fun e => by obtain ⟨m, hm, _⟩ := (h.nodes a).1 ha; rw [e] at hm; cases hm
  have n2 : ns ≠ [] := fun e => by obtain ⟨m, hm, _⟩ := (h'.nodes a).1 hb; rw [e] at hm; cases hm
  have r1 : t.root ≠ -1 := by rw [h.root, if_neg n1]; exact c.rt.2.2
  have r2 : u.root ≠ -1 := by rw [h'.root, if_neg n2]; exact c.rt.2.2
  have e : ∀ k, t.rch k a ↔ u.rch k a := fun k => (h.rch c n1 k a ha).trans (h'.rch c n2 k a hb).symm
  by_cases q : ∃ k, t.rch k a
  · obtain ⟨k, hk⟩ := q
    rw [depth_yes r1 hk, depth_yes r2 ((e k).1 hk)]
  · have q2 : ∀ k, ¬ u.rch k a := fun k hk => q ⟨k, (e k).2 hk⟩
    unfold Tr.depth
    rw [if_neg r1, if_neg r2, dep_no _ _ _ (fun k hk => q ⟨k, hk⟩), dep_no _ _ _ q2]
end
end Go.Proofs.Ytkkkldglceiiiaa
