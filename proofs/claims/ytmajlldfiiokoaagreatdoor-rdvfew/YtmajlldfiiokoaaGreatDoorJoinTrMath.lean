/- Trees out of whoever is next: plain lists. No program in sight. -/
import Derived.WalkKit
import Derived.MapKept
import Derived.Below
import Derived.Maps.RangeRun
import Derived.Maps.RangeWalk
import Derived.Test.YtmajlldfiiokoaaGreatDoorJoinPrInts
import Derived.Test.YtmajlldfiiokoaaGreatDoorFam
import Derived.Deep.CutBlock
import Derived.Deep.DeepCutAuto
import Derived.Deep.LoopGhost
import Derived.Test.YtmajlldfiiokoaaGreatDoorRing
import Derived.Deep.RegionHeld3
import Derived.Test.YtmajlldfiiokoaaGreatDoorShelf
import Derived.Sort.OwnSortedInts
import Derived.Deep.AppendLies
set_option linter.unnecessarySimpa false
namespace Go.Proofs.YtmajlldfiiokoaaGreatDoor
set_option linter.unusedVariables false

theorem nodup_le {α : Type} [DecidableEq α] : ∀ (t l : List α), t.Nodup → (∀ x, x ∈ t → x ∈ l) → t.length ≤ l.length
  | [], l, _, _ => Nat.zero_le _
  | a :: t, l, hp, hs => by
    have ha : a ∈ l := hs a (by simp)
    obtain ⟨h1, h2⟩ := List.nodup_cons.1 hp
    have ih := nodup_le t (l.erase a) h2 (fun x hx => (List.mem_erase_of_ne (show x ≠ a from fun e => h1 (by rw [← e]; exact hx))).2 (hs x (List.mem_cons_of_mem _ hx)))
    have := List.length_erase_of_mem ha
    have : 0 < l.length := List.length_pos_of_mem ha
    simp only [List.length_cons]
    omega

/-- Whom one tells. -/
def lookI : List (Int × Int) → Int → Option Int
  | [], _ => none
  | p :: m, k => if p.1 = k then some p.2 else lookI m k
theorem lookI_none {m : List (Int × Int)} {k : Int} : lookI m k = none ↔ k ∉ m.map (·.1) := by
  induction m with
  | nil => simp [lookI]
  | cons p m ih =>
    by_cases h : p.1 = k
    · simp [lookI, h]
    · have : ¬ k = p.1 := fun e => h e.symm
      simp only [lookI, h, if_false, ih, List.map_cons, List.mem_cons, this, false_or]
theorem lookI_some {m : List (Int × Int)} {k v : Int} (h : lookI m k = some v) : (k, v) ∈ m := by
  induction m with
  | nil => cases h
  | cons p m ih =>
    by_cases hp : p.1 = k
    · simp only [lookI, hp, if_true, Option.some.injEq] at h
      subst hp; subst h; simp
    · simp only [lookI, hp, if_false] at h
      exact List.mem_cons_of_mem _ (ih h)
theorem lookI_mem {m : List (Int × Int)} (hn : (m.map (·.1)).Nodup) {k v : Int} (h : (k, v) ∈ m) : lookI m k = some v := by
  induction m with
  | nil => cases h
  | cons p m ih =>
    obtain ⟨h1, h2⟩ := List.nodup_cons.1 hn
    have h1 : p.1 ∉ m.map (·.1) := h1
    rcases List.mem_cons.1 h with e | h
    · subst e; simp [lookI]
    · have : ¬ p.1 = k := fun e => h1 (by rw [e]; exact List.mem_map.2 ⟨(k, v), h, rfl⟩)
      simp only [lookI, this, if_false]; exact ih h2 h
theorem lookI_snoc (m : List (Int × Int)) (k v n : Int) (hk : lookI m k = none) : lookI (m ++ [(k, v)]) n = if n = k then some v else lookI m n := by
  induction m with
  | nil =>
    by_cases e : k = n
    · subst e; simp [lookI]
    · have : ¬ n = k := fun q => e q.symm
      simp [lookI, e, this]
  | cons p m ih =>
    have hpk : ¬ p.1 = k := fun e => by simp [lookI, e] at hk
    have hk' : lookI m k = none := by simpa [lookI, hpk] using hk
    by_cases e : p.1 = n
    · have : ¬ n = k := fun q => hpk (by rw [e, q])
      simp [lookI, e, this]
    · simp only [List.cons_append, lookI, e, if_false, ih hk']

/-- A tree: its root (-1: none), and who tells whom. -/
structure Tr where
  root : Int
  up : List (Int × Int)
def Tr.tells (t : Tr) (n : Int) : Bool := (lookI t.up n).isSome
def Tr.has (t : Tr) (n : Int) : Bool := t.tells n || (t.root != -1 && n == t.root)
def tr0 : Tr := ⟨-1, []⟩
/-- From a node on; the code (0: none) and the tree. -/
def walkT (nx : Int → Option Int) : Nat → Tr → Int → Int × Tr
  | 0, t, _ => (0, t)
  | f + 1, t, n =>
    if t.has n then (0, t) else
    match nx n with
    | none => (6, t)
    | some v => if v = n then (if t.root = -1 then (0, ⟨n, t.up⟩) else (5, t)) else walkT nx f ⟨t.root, t.up ++ [(n, v)]⟩ v
def ofT (nx : Int → Option Int) : Tr → List Int → Int × Tr
  | t, [] => (0, t)
  | t, n :: l => if (walkT nx 66 t n).1 = 0 then ofT nx (walkT nx 66 t n).2 l else walkT nx 66 t n
def treeOf (nx : Int → Option Int) (l : List Int) : Int × Tr :=
  if (ofT nx tr0 l).1 ≠ 0 then (ofT nx tr0 l)
  else if 0 < l.length ∧ (ofT nx tr0 l).2.root = -1 then (13, (ofT nx tr0 l).2) else (0, (ofT nx tr0 l).2)

/-- What holds of a tree that is made. -/
structure TrOk (nx : Int → Option Int) (t : Tr) : Prop where
  nd : (t.up.map (·.1)).Nodup
  st : ∀ n v, lookI t.up n = some v → nx n = some v ∧ v ≠ n
  rt : t.root ≠ -1 → nx t.root = some t.root
theorem TrOk.zero (nx : Int → Option Int) : TrOk nx tr0 := ⟨by simp [tr0], fun n v h => by simp [tr0, lookI] at h, fun h => absurd rfl h⟩
theorem Tr.has_iff {t : Tr} {n : Int} : t.has n = true ↔ (∃ v, lookI t.up n = some v) ∨ (t.root ≠ -1 ∧ n = t.root) := by
  unfold Tr.has Tr.tells
  simp [Option.isSome_iff_exists]
theorem TrOk.has {nx : Int → Option Int} {t : Tr} (h : TrOk nx t) {n : Int} (hn : t.has n = true) : ∃ v, nx n = some v := by
  rcases Tr.has_iff.1 hn with ⟨v, hv⟩ | ⟨h1, rfl⟩
  · exact ⟨v, (h.st _ _ hv).1⟩
  · exact ⟨_, h.rt h1⟩
theorem Tr.has_no {t : Tr} {n : Int} (h : t.has n = false) : lookI t.up n = none ∧ (t.root = -1 ∨ n ≠ t.root) := by
  have h' : ¬ t.has n = true := by rw [h]; simp
  rw [Tr.has_iff] at h'
  refine ⟨?_, ?_⟩
  · cases q : lookI t.up n with
    | none => rfl
    | some v => exact absurd (.inl ⟨v, q⟩) h'
  · by_cases q : t.root = -1
    · exact .inl q
    · exact .inr fun e => h' (.inr ⟨q, e⟩)
theorem TrOk.put {nx : Int → Option Int} {t : Tr} (h : TrOk nx t) {n v : Int} (hn : t.has n = false) (hv : nx n = some v) (hne : v ≠ n) : TrOk nx ⟨t.root, t.up ++ [(n, v)]⟩ := by
  obtain ⟨h1, h2⟩ := Tr.has_no hn
  refine ⟨?_, fun a b hab => ?_, h.rt⟩
  · rw [List.map_append]
    refine List.nodup_append.2 ⟨h.nd, by simp, fun a ha b hb e => ?_⟩
    simp at hb
    subst hb; subst e
    exact lookI_none.1 h1 ha
  · rw [lookI_snoc _ _ _ _ h1] at hab
    by_cases e : a = n
    · rw [if_pos e] at hab
      cases hab
      subst e
      exact ⟨hv, hne⟩
    · rw [if_neg e] at hab
      exact h.st _ _ hab
theorem TrOk.made {nx : Int → Option Int} {t : Tr} (h : TrOk nx t) {n : Int} (hv : nx n = some n) : TrOk nx ⟨n, t.up⟩ := ⟨h.nd, h.st, fun _ => hv⟩
theorem TrOk.walk {nx : Int → Option Int} : ∀ (f : Nat) (t : Tr) (n : Int), TrOk nx t → TrOk nx (walkT nx f t n).2
  | 0, t, n, h => h
  | f + 1, t, n, h => by
    unfold walkT
    cases q : t.has n
    · simp only [Bool.false_eq_true, if_false]
      cases hv : nx n with
      | none => exact h
      | some v =>
        simp only
        by_cases e : v = n
        · rw [if_pos e]
          subst e
          by_cases e2 : t.root = -1
          · rw [if_pos e2]; exact h.made hv
          · rw [if_neg e2]; exact h
        · rw [if_neg e]
          exact TrOk.walk f _ _ (h.put q hv e)
    · simp only [if_true]; exact h
theorem TrOk.of {nx : Int → Option Int} : ∀ (l : List Int) (t : Tr), TrOk nx t → TrOk nx (ofT nx t l).2
  | [], t, h => h
  | n :: l, t, h => by
    unfold ofT
    have := h.walk 66 t n
    split
    · exact TrOk.of l _ this
    · exact this
theorem tree_snd (nx : Int → Option Int) (l : List Int) : (treeOf nx l).2 = (ofT nx tr0 l).2 := by
  unfold treeOf
  split
  · rfl
  · split <;> rfl
theorem tree_ok (nx : Int → Option Int) (l : List Int) : TrOk nx (treeOf nx l).2 := by
  rw [tree_snd]; exact TrOk.of l _ (TrOk.zero nx)
theorem ofT_cons (nx : Int → Option Int) (t : Tr) (n : Int) (l : List Int) : ofT nx t (n :: l) = if (walkT nx 66 t n).1 = 0 then ofT nx (walkT nx 66 t n).2 l else walkT nx 66 t n := by simp only [ofT]
theorem ofT_nil (nx : Int → Option Int) (t : Tr) : ofT nx t [] = (0, t) := by simp only [ofT]
theorem of_snoc (nx : Int → Option Int) : ∀ (l : List Int) (t : Tr) (n : Int), (ofT nx t l).1 = 0 → ofT nx t (l ++ [n]) = walkT nx 66 (ofT nx t l).2 n
  | [], t, n, _ => by
    rw [ofT_nil, List.nil_append, ofT_cons, ofT_nil]
    split
    · rename_i h
      exact Prod.ext h.symm rfl
    · rfl
  | m :: l, t, n, h => by
    rw [List.cons_append, ofT_cons, ofT_cons]
    rw [ofT_cons] at h
    by_cases q : (walkT nx 66 t m).1 = 0
    · rw [if_pos q] at h
      rw [if_pos q, if_pos q]
      exact of_snoc nx l _ n h
    · rw [if_neg q] at h
      exact absurd h q
theorem of_stop (nx : Int → Option Int) : ∀ (l r : List Int) (t : Tr), (ofT nx t l).1 ≠ 0 → ofT nx t (l ++ r) = ofT nx t l
  | [], r, t, h => absurd (by rw [ofT_nil]) h
  | m :: l, r, t, h => by
    rw [List.cons_append, ofT_cons, ofT_cons]
    rw [ofT_cons] at h
    by_cases q : (walkT nx 66 t m).1 = 0
    · rw [if_pos q] at h
      rw [if_pos q, if_pos q]
      exact of_stop nx l r _ h
    · rw [if_neg q, if_neg q]

/-- From a node it is just so many steps up to the root. -/
def Tr.rch (t : Tr) : Nat → Int → Prop
  | 0, n => n = t.root
  | k + 1, n => n ≠ t.root ∧ ∃ v, lookI t.up n = some v ∧ t.rch k v
theorem rch_uniq {t : Tr} : ∀ {k j : Nat} {n : Int}, t.rch k n → t.rch j n → k = j
  | 0, 0, _, _, _ => rfl
  | 0, _ + 1, _, h, h' => absurd h h'.1
  | _ + 1, 0, _, h, h' => absurd h' h.1
  | k + 1, j + 1, n, ⟨_, v, hv, h⟩, ⟨_, u, hu, h'⟩ => by
    rw [hv] at hu
    cases hu
    rw [rch_uniq h h']
/-- The nodes on the way up. -/
theorem rch_list {t : Tr} : ∀ (k : Nat) (n : Int), t.rch k n → ∃ l : List Int, l.length = k ∧ (∀ x ∈ l, x ∈ t.up.map (·.1) ∧ ∃ j, 0 < j ∧ j ≤ k ∧ t.rch j x) ∧ l.Nodup
  | 0, n, _ => ⟨[], rfl, fun x hx => (by cases hx), List.nodup_nil⟩
  | k + 1, n, h => by
    obtain ⟨h1, v, hv, h2⟩ := h
    obtain ⟨l, hl, hx, hn⟩ := rch_list k v h2
    refine ⟨n :: l, by simp [hl], fun x hx' => ?_, List.nodup_cons.2 ⟨fun hm => ?_, hn⟩⟩
    · rcases List.mem_cons.1 hx' with rfl | hm
      · exact ⟨List.mem_map.2 ⟨_, lookI_some hv, rfl⟩, k + 1, by omega, Nat.le_refl _, h1, v, hv, h2⟩
      · obtain ⟨a, j, b, c, d⟩ := hx x hm
        exact ⟨a, j, b, by omega, d⟩
    · obtain ⟨_, j, _, hj, hr⟩ := hx n hm
      have := rch_uniq (show t.rch (k + 1) n from ⟨h1, v, hv, h2⟩) hr
      omega
theorem rch_le {t : Tr} {k : Nat} {n : Int} (h : t.rch k n) : k ≤ t.up.length := by
  obtain ⟨l, hl, hx, hn⟩ := rch_list k n h
  have := nodup_le l (t.up.map (·.1)) hn (fun x hx' => (hx x hx').1)
  simp at this
  omega
/-- How deep, by so many tries. -/
def Tr.dep (t : Tr) : Nat → Nat → Int → Int
  | 0, _, _ => -1
  | f + 1, s, n => if n = t.root then s else match lookI t.up n with
    | none => -1
    | some v => t.dep f (s + 1) v
theorem dep_yes {t : Tr} : ∀ (f k s : Nat) (n : Int), t.rch k n → k < f → t.dep f s n = (s : Int) + k
  | 0, k, s, n, _, h => absurd h (Nat.not_lt_zero _)
  | f + 1, 0, s, n, h, _ => by
    unfold Tr.dep
    have h : n = t.root := h
    rw [if_pos h]; simp
  | f + 1, k + 1, s, n, ⟨h1, v, hv, h2⟩, hk => by
    unfold Tr.dep
    rw [if_neg h1, hv]
    have := dep_yes f k (s + 1) v h2 (by omega)
    simp only
    rw [this]; omega
theorem dep_no {t : Tr} : ∀ (f s : Nat) (n : Int), (∀ k, ¬ t.rch k n) → t.dep f s n = -1
  | 0, s, n, _ => rfl
  | f + 1, s, n, h => by
    unfold Tr.dep
    rw [if_neg (show ¬ n = t.root from fun e => h 0 e)]
    cases hv : lookI t.up n with
    | none => rfl
    | some v => exact dep_no f (s + 1) v (fun k hk => h (k + 1) ⟨fun e => h 0 e, v, hv, hk⟩)
/-- How deep a node is; -1: it is none of the tree. -/
def Tr.depth (t : Tr) (n : Int) : Int := if t.root = -1 then -1 else t.dep (t.up.length + 1) 0 n
theorem depth_yes {t : Tr} {n : Int} {k : Nat} (hr : t.root ≠ -1) (h : t.rch k n) : t.depth n = k := by
  unfold Tr.depth
  rw [if_neg hr, dep_yes _ k 0 n h (by have := rch_le h; omega)]
  simp
theorem dep_any {t : Tr} (f : Nat) (n : Int) (hf : t.up.length < f) : t.dep f 0 n = t.dep (t.up.length + 1) 0 n := by
  by_cases h : ∃ k, t.rch k n
  · obtain ⟨k, hk⟩ := h
    have := rch_le hk
    rw [dep_yes _ k 0 n hk (by omega), dep_yes _ k 0 n hk (by omega)]
  · have h' : ∀ k, ¬ t.rch k n := fun k hk => h ⟨k, hk⟩
    rw [dep_no _ _ _ h', dep_no _ _ _ h']
theorem depth_ge {t : Tr} {n : Int} (h : 0 ≤ t.depth n) : t.root ≠ -1 ∧ ∃ k, t.rch k n ∧ t.depth n = k := by
  have hr : t.root ≠ -1 := fun e => by rw [Tr.depth, if_pos e] at h; omega
  refine ⟨hr, ?_⟩
  by_cases q : ∃ k, t.rch k n
  · obtain ⟨k, hk⟩ := q
    exact ⟨k, hk, depth_yes hr hk⟩
  · rw [Tr.depth, if_neg hr, dep_no _ _ _ (fun k hk => q ⟨k, hk⟩)] at h
    omega
/-- Whoever tells another one is one deeper. -/
theorem depth_up {nx : Int → Option Int} {t : Tr} (ht : TrOk nx t) {c n : Int} (hc : lookI t.up c = some n) (h : 0 ≤ t.depth n) : t.depth c = t.depth n + 1 := by
  obtain ⟨hr, k, hk, e⟩ := depth_ge h
  have hcr : c ≠ t.root := fun q => by
    have h1 := ht.rt hr
    have h2 := ht.st _ _ hc
    rw [q, h1] at h2
    exact h2.2 (Option.some.inj h2.1).symm
  rw [e, depth_yes hr (show t.rch (k + 1) c from ⟨hcr, n, hc, hk⟩)]
  simp
/-- All of it. -/
def Tr.inT (t : Tr) (n : Int) : Prop := (t.root ≠ -1 ∧ n = t.root) ∨ ∃ v, lookI t.up n = some v
end Go.Proofs.YtmajlldfiiokoaaGreatDoor

/- Trees of those whose ways all end at one. No program in sight. -/
namespace Go.Proofs.YtmajlldfiiokoaaGreatDoor
set_option linter.unusedVariables false

def itr (s : Int → Int) : Nat → Int → Int
  | 0, n => n
  | k + 1, n => itr s k (s n)
theorem itr_out (s : Int → Int) : ∀ (k : Nat) (n : Int), itr s (k + 1) n = s (itr s k n)
  | 0, n => rfl
  | k + 1, n => by show itr s (k + 1) (s n) = _; rw [itr_out s k (s n)]; rfl
theorem itr_fix (s : Int → Int) {r : Int} (h : s r = r) : ∀ k, itr s k r = r
  | 0 => rfl
  | k + 1 => by show itr s k (s r) = r; rw [h]; exact itr_fix s h k
/-- All ways end at one. -/
structure Conv (nx : Int → Option Int) (L : Int → Prop) (s : Int → Int) (r : Int) : Prop where
  nx : ∀ n, L n → nx n = some (s n)
  cl : ∀ n, L n → L (s n)
  fx : ∀ n, L n → s n = n → n = r
  en : ∀ n, L n → ∃ k, k < 60 ∧ itr s k n = r
  rt : s r = r ∧ L r ∧ r ≠ -1
section
variable {nx : Int → Option Int} {L : Int → Prop} {s : Int → Int} {r : Int}
theorem Conv.live (c : Conv nx L s r) {n : Int} (h : L n) : ∀ k, L (itr s k n) := fun k => by
  induction k with
  | zero => exact h
  | succ k ih => rw [itr_out]; exact c.cl _ ih
/-- Whose next one is of the tree, but maybe the one at which the walk stands. -/
def CloE (t : Tr) (cur : Int) : Prop := ∀ a v, lookI t.up a = some v → t.has v = true ∨ v = cur
def Clo (t : Tr) : Prop := ∀ a v, lookI t.up a = some v → t.has v = true
theorem has_inT {t : Tr} {n : Int} : t.has n = true ↔ t.inT n := by
  rw [Tr.has_iff]; unfold Tr.inT; exact Or.comm
structure TrL (nx : Int → Option Int) (L : Int → Prop) (t : Tr) : Prop where
  ok : TrOk nx t
  li : ∀ n, t.inT n → L n
theorem Conv.in_all (c : Conv nx L s r) {t : Tr} (ht : TrL nx L t) (hc : Clo t) {n : Int} (hn : t.inT n) : ∀ k, t.inT (itr s k n) := fun k => by
  induction k with
  | zero => exact hn
  | succ k ih =>
    rw [itr_out]
    rcases ih with ⟨h1, h2⟩ | ⟨v, hv⟩
    · have := ht.ok.rt h1
      rw [← h2] at this
      rw [c.nx _ (ht.li _ (.inl ⟨h1, h2⟩))] at this
      rw [Option.some.inj this]
      exact .inl ⟨h1, h2⟩
    · have h1 := (ht.ok.st _ _ hv).1
      rw [c.nx _ (ht.li _ (.inr ⟨v, hv⟩))] at h1
      rw [Option.some.inj h1]
      exact has_inT.1 (hc _ _ hv)
theorem Conv.root_in (c : Conv nx L s r) {t : Tr} (ht : TrL nx L t) (h : t.inT r) : t.root = r := by
  rcases h with ⟨_, h⟩ | ⟨v, hv⟩
  · exact h.symm
  · have := ht.ok.st _ _ hv
    rw [c.nx _ c.rt.2.1, c.rt.1] at this
    exact absurd (Option.some.inj this.1).symm this.2
theorem Conv.root_is (c : Conv nx L s r) {t : Tr} (ht : TrL nx L t) (h : t.root ≠ -1) : t.root = r := by
  have hl := ht.li _ (.inl ⟨h, rfl⟩)
  have := ht.ok.rt h
  rw [c.nx _ hl] at this
  exact c.fx _ hl (Option.some.inj this)
theorem Conv.walk (c : Conv nx L s r) : ∀ (k f : Nat) (t : Tr) (n : Int), L n → itr s k n = r → k < f → TrL nx L t → CloE t n →
    ∃ t', walkT nx f t n = (0, t') ∧ TrL nx L t' ∧ Clo t' ∧ t'.root = r ∧ ∀ a, t'.inT a ↔ t.inT a ∨ ∃ j, a = itr s j n := by
  intro k
  induction k with
  | zero =>
    intro f t n hn hk hf ht hc
    obtain ⟨f, rfl⟩ : ∃ g, f = g + 1 := ⟨f - 1, by omega⟩
    have hnr : n = r := hk
    subst hnr
    have hs := c.rt.1
    cases hh : t.has n with
    | true =>
      have hi := has_inT.1 hh
      refine ⟨t, by simp [walkT, hh], ht, fun a v hv => (hc a v hv).elim id (fun e => by rw [e]; exact hh), c.root_in ht hi, fun a => ⟨.inl, ?_⟩⟩
      rintro (h | ⟨j, rfl⟩)
      · exact h
      · rw [itr_fix s hs]; exact hi
    | false =>
      have hroot : t.root = -1 := by
        apply Classical.byContradiction
        intro h
        have := has_inT.2 (show t.inT n from .inl ⟨h, (c.root_is ht h).symm⟩)
        rw [hh] at this; cases this
      refine ⟨⟨n, t.up⟩, by simp [walkT, hh, c.nx n hn, hs, hroot], ⟨ht.ok.made (by rw [c.nx n hn, hs]), ?_⟩, fun a v hv => ?_, rfl, fun a => ?_⟩
      · rintro a (⟨_, h2⟩ | ⟨v, hv⟩)
        · rw [h2]; exact hn
        · exact ht.li _ (.inr ⟨v, hv⟩)
      · rcases hc a v hv with h | h
        · rcases Tr.has_iff.1 h with h | ⟨h, _⟩
          · exact Tr.has_iff.2 (.inl h)
          · exact absurd hroot h
        · rw [h]; exact Tr.has_iff.2 (.inr ⟨c.rt.2.2, rfl⟩)
      · constructor
        · rintro (⟨_, h2⟩ | h)
          · exact .inr ⟨0, h2⟩
          · exact .inl (.inr h)
        · rintro (h | ⟨j, rfl⟩)
          · rcases h with ⟨h, _⟩ | h
            · exact absurd hroot h
            · exact .inr h
          · rw [itr_fix s hs]; exact .inl ⟨c.rt.2.2, rfl⟩
  | succ k ih =>
    intro f t n hn hk hf ht hc
    obtain ⟨f, rfl⟩ : ∃ g, f = g + 1 := ⟨f - 1, by omega⟩
    cases hh : t.has n with
    | true =>
      have hi := has_inT.1 hh
      have hcl : Clo t := fun a v hv => (hc a v hv).elim id (fun e => by rw [e]; exact hh)
      have hall := c.in_all ht hcl hi
      refine ⟨t, by simp [walkT, hh], ht, hcl, c.root_in ht (by have := hall (k + 1); rw [hk] at this; exact this), fun a => ⟨.inl, ?_⟩⟩
      rintro (h | ⟨j, rfl⟩)
      · exact h
      · exact hall j
    | false =>
      by_cases hs : s n = n
      · -- it is its own next: it is the one
        have hnr := c.fx n hn hs
        have := itr_fix s hs k
        have hk0 : itr s 0 n = r := hnr
        have hroot : t.root = -1 := by
          apply Classical.byContradiction
          intro h
          have := has_inT.2 (show t.inT n from .inl ⟨h, by rw [c.root_is ht h]; exact hnr⟩)
          rw [hh] at this; cases this
        refine ⟨⟨n, t.up⟩, by simp [walkT, hh, c.nx n hn, hs, hroot], ⟨ht.ok.made (by rw [c.nx n hn, hs]), ?_⟩, fun a v hv => ?_, hnr, fun a => ?_⟩
        · rintro a (⟨_, h2⟩ | ⟨v, hv⟩)
          · rw [h2]; exact hn
          · exact ht.li _ (.inr ⟨v, hv⟩)
        · have hne : n ≠ -1 := by rw [hnr]; exact c.rt.2.2
          rcases hc a v hv with h | h
          · rcases Tr.has_iff.1 h with h | ⟨h, _⟩
            · exact Tr.has_iff.2 (.inl h)
            · exact absurd hroot h
          · rw [h]; exact Tr.has_iff.2 (.inr ⟨hne, rfl⟩)
        · have hne : n ≠ -1 := by rw [hnr]; exact c.rt.2.2
          constructor
          · rintro (⟨_, h2⟩ | h)
            · exact .inr ⟨0, h2⟩
            · exact .inl (.inr h)
          · rintro (h | ⟨j, rfl⟩)
            · rcases h with ⟨h, _⟩ | h
              · exact absurd hroot h
              · exact .inr h
            · rw [itr_fix s hs]; exact .inl ⟨hne, rfl⟩
      · have hno := Tr.has_no hh
        have hlk : ∀ a, lookI (t.up ++ [(n, s n)]) a = if a = n then some (s n) else lookI t.up a := fun a => lookI_snoc _ _ _ _ hno.1
        have hin : ∀ a, (⟨t.root, t.up ++ [(n, s n)]⟩ : Tr).inT a ↔ t.inT a ∨ a = n := fun a => by
          unfold Tr.inT
          simp only [hlk]
          by_cases e : a = n
          · subst e; simp
          · simp [e]
        have ht' : TrL nx L ⟨t.root, t.up ++ [(n, s n)]⟩ := ⟨ht.ok.put hh (c.nx n hn) hs, fun a ha => ((hin a).1 ha).elim (ht.li a) (fun e => by rw [e]; exact hn)⟩
        have hc' : CloE ⟨t.root, t.up ++ [(n, s n)]⟩ (s n) := fun a v hv => by
          simp only [hlk] at hv
          by_cases e : a = n
          · rw [if_pos e] at hv; exact .inr (Option.some.inj hv).symm
          · rw [if_neg e] at hv
            refine .inl (has_inT.2 ((hin v).2 ?_))
            rcases hc a v hv with h | h
            · exact .inl (has_inT.1 h)
            · exact .inr h
        obtain ⟨t', h1, h2, h3, h4, h5⟩ := ih f _ (s n) (c.cl n hn) hk (by omega) ht' hc'
        refine ⟨t', by simp only [walkT, hh, Bool.false_eq_true, if_false, c.nx n hn, if_neg hs]; exact h1, h2, h3, h4, fun a => ?_⟩
        rw [h5, hin]
        constructor
        · rintro ((h | h) | ⟨j, h⟩)
          · exact .inl h
          · exact .inr ⟨0, h⟩
          · exact .inr ⟨j + 1, h⟩
        · rintro (h | ⟨j, h⟩)
          · exact .inl (.inl h)
          · cases j with
            | zero => exact .inl (.inr h)
            | succ j => exact .inr ⟨j, h⟩
theorem Conv.of (c : Conv nx L s r) : ∀ (ms : List Int) (t : Tr), (∀ m ∈ ms, L m) → TrL nx L t → Clo t →
    ∃ t', ofT nx t ms = (0, t') ∧ TrL nx L t' ∧ Clo t' ∧ (ms ≠ [] → t'.root = r) ∧ (ms = [] → t' = t) ∧ ∀ a, t'.inT a ↔ t.inT a ∨ ∃ m ∈ ms, ∃ j, a = itr s j m
  | [], t, _, ht, hc => ⟨t, ofT_nil _ _, ht, hc, fun h => absurd rfl h, fun _ => rfl, fun a => by simp⟩
  | m :: ms, t, hl, ht, hc => by
    obtain ⟨k, hk, hr⟩ := c.en m (hl m (by simp))
    obtain ⟨t1, w1, l1, c1, r1, i1⟩ := c.walk k 66 t m (hl m (by simp)) hr (by omega) ht (fun a v hv => .inl (hc a v hv))
    obtain ⟨t2, w2, l2, c2, r2, e2, i2⟩ := c.of ms t1 (fun x hx => hl x (by simp [hx])) l1 c1
    refine ⟨t2, by rw [ofT_cons, w1, if_pos rfl]; exact w2, l2, c2, fun _ => ?_, fun h => (by cases h), fun a => ?_⟩
    · by_cases h : ms = []
      · rw [e2 h]; exact r1
      · exact r2 h
    · rw [i2, i1]
      constructor
      · rintro ((h | h) | ⟨x, hx, h⟩)
        · exact .inl h
        · exact .inr ⟨m, by simp, h⟩
        · exact .inr ⟨x, by simp [hx], h⟩
      · rintro (h | ⟨x, hx, h⟩)
        · exact .inl (.inl h)
        · rcases List.mem_cons.1 hx with rfl | hx
          · exact .inl (.inr h)
          · exact .inr ⟨x, hx, h⟩
/-- What a tree of members is whose ways all end at one. -/
structure TrIs (nx : Int → Option Int) (s : Int → Int) (r : Int) (ms : List Int) (t : Tr) : Prop where
  ok : TrOk nx t
  root : t.root = if ms = [] then -1 else r
  nodes : ∀ a, t.inT a ↔ ∃ m ∈ ms, ∃ j, a = itr s j m
  up : ∀ a v, lookI t.up a = some v ↔ t.inT a ∧ a ≠ r ∧ v = s a
theorem Conv.zero (nx : Int → Option Int) (L : Int → Prop) : TrL nx L tr0 ∧ Clo tr0 := by
  refine ⟨⟨TrOk.zero nx, ?_⟩, fun a v h => by simp [tr0, lookI] at h⟩
  rintro n (⟨h, _⟩ | ⟨v, h⟩)
  · exact absurd rfl h
  · simp [tr0, lookI] at h
theorem Conv.tree (c : Conv nx L s r) (ms : List Int) (hl : ∀ m ∈ ms, L m) : (treeOf nx ms).1 = 0 ∧ TrIs nx s r ms (treeOf nx ms).2 := by
  obtain ⟨z1, z2⟩ := Conv.zero nx L
  obtain ⟨t, h1, h2, h3, h4, h5, h6⟩ := c.of ms tr0 hl z1 z2
  have hz : ∀ a, ¬ tr0.inT a := by
    rintro a (⟨h, _⟩ | ⟨v, h⟩)
    · exact h rfl
    · simp [tr0, lookI] at h
  have hr : t.root = if ms = [] then -1 else r := by
    by_cases e : ms = []
    · rw [if_pos e, h5 e]; rfl
    · rw [if_neg e]; exact h4 e
  have ht : treeOf nx ms = (0, t) := by
    unfold treeOf
    rw [h1]
    rw [if_neg (by simp), if_neg]
    rintro ⟨p, q⟩
    have : ms ≠ [] := fun e => by rw [e] at p; simp at p
    rw [if_neg this] at hr
    exact c.rt.2.2 (hr ▸ q)
  rw [ht]
  refine ⟨rfl, h2.ok, hr, fun a => by rw [h6]; exact ⟨fun h => h.resolve_left (hz a), .inr⟩, fun a v => ?_⟩
  constructor
  · intro hv
    have hi : t.inT a := .inr ⟨v, hv⟩
    have := h2.ok.st _ _ hv
    rw [c.nx a (h2.li a hi)] at this
    have hsv := Option.some.inj this.1
    refine ⟨hi, fun e => ?_, hsv.symm⟩
    rw [e, c.rt.1] at hsv
    exact this.2 (by rw [e]; exact hsv.symm)
  · rintro ⟨hi, hne, rfl⟩
    rcases hi with ⟨q1, q2⟩ | ⟨v, hv⟩
    · rw [q2] at hne
      exact absurd (c.root_is h2 q1) hne
    · have := h2.ok.st _ _ hv
      rw [c.nx a (h2.li a (.inr ⟨v, hv⟩))] at this
      rw [hv, Option.some.inj this.1]
/-- Of members one of whom isn't there, nothing. -/
theorem Conv.dead (c : Conv nx L s r) (hno : ∀ n, ¬ L n → nx n = none) : ∀ (ms : List Int) (t : Tr), TrL nx L t → Clo t → (∃ m ∈ ms, ¬ L m) → (ofT nx t ms).1 = 6
  | [], t, _, _, ⟨m, hm, _⟩ => by cases hm
  | m :: ms, t, ht, hc, ⟨x, hx, hxl⟩ => by
    rw [ofT_cons]
    by_cases hm : L m
    · obtain ⟨k, hk, hr⟩ := c.en m hm
      obtain ⟨t1, w1, l1, c1, _, _⟩ := c.walk k 66 t m hm hr (by omega) ht (fun a v hv => .inl (hc a v hv))
      rw [w1, if_pos rfl]
      refine c.dead hno ms t1 l1 c1 ⟨x, ?_, hxl⟩
      rcases List.mem_cons.1 hx with rfl | h
      · exact absurd hm hxl
      · exact h
    · have hh : t.has m = false := by
        cases q : t.has m with
        | false => rfl
        | true => exact absurd (ht.li _ (has_inT.1 q)) hm
      have : walkT nx 66 t m = (6, t) := by simp [walkT, hh, hno m hm]
      rw [this]; simp
theorem Conv.tree_dead (c : Conv nx L s r) (hno : ∀ n, ¬ L n → nx n = none) (ms : List Int) (h : ∃ m ∈ ms, ¬ L m) : (treeOf nx ms).1 = 6 := by
  obtain ⟨z1, z2⟩ := Conv.zero nx L
  have := c.dead hno ms tr0 z1 z2 h
  unfold treeOf
  rw [if_pos (by rw [this]; decide)]
  exact this
/-- So many steps up to the root. -/
theorem TrIs.rch (c : Conv nx L s r) {ms : List Int} {t : Tr} (h : TrIs nx s r ms t) (hne : ms ≠ []) : ∀ (k : Nat) (a : Int), t.inT a → (t.rch k a ↔ itr s k a = r ∧ ∀ j, j < k → itr s j a ≠ r)
  | 0, a, _ => by
    show a = t.root ↔ _
    rw [h.root, if_neg hne]
    exact ⟨fun e => ⟨e, fun j hj => absurd hj (Nat.not_lt_zero _)⟩, fun e => e.1⟩
  | k + 1, a, ha => by
    have hin : t.inT (s a) := by
      obtain ⟨m, hm, j, e⟩ := (h.nodes a).1 ha
      exact (h.nodes _).2 ⟨m, hm, j + 1, by rw [itr_out, e]⟩
    have ih := h.rch c hne k (s a) hin
    constructor
    · rintro ⟨h1, v, hv, h2⟩
      obtain ⟨_, h4, rfl⟩ := (h.up _ _).1 hv
      obtain ⟨i1, i2⟩ := ih.1 h2
      refine ⟨i1, fun j hj => ?_⟩
      cases j with
      | zero => exact h4
      | succ j => exact i2 j (by omega)
    · rintro ⟨h1, h2⟩
      have h3 : a ≠ r := h2 0 (by omega)
      refine ⟨by rw [h.root, if_neg hne]; exact h3, s a, (h.up _ _).2 ⟨ha, h3, rfl⟩, ih.2 ⟨h1, fun j hj => h2 (j + 1) (by omega)⟩⟩
/-- Trees that both have a node have it as deep. -/
theorem TrIs.depth_same (c : Conv nx L s r) {ms ns : List Int} {t u : Tr} (h : TrIs nx s r ms t) (h' : TrIs nx s r ns u) {a : Int} (ha : t.inT a) (hb : u.inT a) : t.depth a = u.depth a := by
  have n1 : ms ≠ [] := fun e => by obtain ⟨m, hm, _⟩ := (h.nodes a).1 ha; rw [e] at hm; cases hm
  have n2 : ns ≠ [] := fun e => by obtain ⟨m, hm, _⟩ := (h'.nodes a).1 hb; rw [e] at hm; cases hm
  have r1 : t.root ≠ -1 := by rw [h.root, if_neg n1]; exact c.rt.2.2
  have r2 : u.root ≠ -1 := by rw [h'.root, if_neg n2]; exact c.rt.2.2
  have e : ∀ k, t.rch k a ↔ u.rch k a := fun k => (h.rch c n1 k a ha).trans (h'.rch c n2 k a hb).symm
  by_cases q : ∃ k, t.rch k a
  · obtain ⟨k, hk⟩ := q
    rw [depth_yes r1 hk, depth_yes r2 ((e k).1 hk)]
  · have q2 : ∀ k, ¬ u.rch k a := fun k hk => q ⟨k, (e k).2 hk⟩
    unfold Tr.depth
    rw [if_neg r1, if_neg r2, dep_no _ _ _ (fun k hk => q ⟨k, hk⟩), dep_no _ _ _ q2]
end
end Go.Proofs.YtmajlldfiiokoaaGreatDoor

/- Maps whatever their keys, as lists of pairs in the order in which they came; look-ups, stores, deletes, and going over one in whatever order. No program in sight. -/
namespace Go.Proofs.YtmajlldfiiokoaaGreatDoor
open Go.RowKit
open Go.ChangeMaps (setBlock)
set_option linter.unusedVariables false

section
variable {κ : Type} [DecidableEq κ]

/-- What a list of pairs says of a key. -/
def lookK (m : List (κ × Value)) (k : κ) : Option Value :=
  match m with
  | [] => none
  | p :: m => if p.1 = k then some p.2 else lookK m k
def fndK (m : List (κ × Value)) (k : κ) (i : Nat) : Option (Nat × Value) :=
  match m with
  | [] => none
  | p :: m => if p.1 = k then some (i, p.2) else fndK m k (i + 1)
theorem fndK_look (m : List (κ × Value)) (k : κ) (i : Nat) : (fndK m k i).map (·.2) = lookK m k := by
  induction m generalizing i with
  | nil => rfl
  | cons p m ih =>
    by_cases h : p.1 = k
    · simp [fndK, lookK, h]
    · simp only [fndK, lookK, h, if_false]; exact ih _
theorem lookK_none {m : List (κ × Value)} {k : κ} : lookK m k = none ↔ k ∉ m.map (·.1) := by
  induction m with
  | nil => simp [lookK]
  | cons p m ih =>
    by_cases h : p.1 = k
    · simp [lookK, h]
    · have : ¬ k = p.1 := fun e => h e.symm
      simp only [lookK, h, if_false, ih, List.map_cons, List.mem_cons, this, false_or]
theorem lookK_some {m : List (κ × Value)} {k : κ} {v : Value} (h : lookK m k = some v) : (k, v) ∈ m := by
  induction m with
  | nil => cases h
  | cons p m ih =>
    by_cases hp : p.1 = k
    · simp only [lookK, hp, if_true, Option.some.injEq] at h
      subst hp; subst h; simp
    · simp only [lookK, hp, if_false] at h
      exact List.mem_cons_of_mem _ (ih h)
theorem lookK_mem {m : List (κ × Value)} (hn : (m.map (·.1)).Nodup) {k : κ} {v : Value} (h : (k, v) ∈ m) : lookK m k = some v := by
  induction m with
  | nil => cases h
  | cons p m ih =>
    obtain ⟨h1, h2⟩ := List.nodup_cons.1 hn
    have h1 : p.1 ∉ m.map (·.1) := h1
    rcases List.mem_cons.1 h with e | h
    · subst e; simp [lookK]
    · have : ¬ p.1 = k := fun e => h1 (by rw [e]; exact List.mem_map.2 ⟨(k, v), h, rfl⟩)
      simp only [lookK, this, if_false]; exact ih h2 h
theorem fndK_spec {m : List (κ × Value)} {k : κ} {i j : Nat} {v : Value} (h : fndK m k i = some (j, v)) : i ≤ j ∧ ∃ hj : j - i < m.length, m[j - i].1 = k ∧ m[j - i].2 = v := by
  induction m generalizing i with
  | nil => cases h
  | cons p m ih =>
    by_cases hp : p.1 = k
    · simp only [fndK, hp, if_true, Option.some.injEq, Prod.mk.injEq] at h
      obtain ⟨rfl, rfl⟩ := h
      exact ⟨Nat.le_refl _, by simp, by simp [hp]⟩
    · simp only [fndK, hp, if_false] at h
      obtain ⟨h1, hj, h2, h3⟩ := ih h
      refine ⟨by omega, by simp; omega, ?_⟩
      have e : j - i = (j - (i + 1)) + 1 := by omega
      simp only [e, List.getElem_cons_succ]
      exact ⟨h2, h3⟩
theorem eraseK_filter {m : List (κ × Value)} (hn : (m.map (·.1)).Nodup) {j : Nat} (hj : j < m.length) : m.eraseIdx j = m.filter (fun p => p.1 ≠ m[j].1) := by
  induction m generalizing j with
  | nil => simp at hj
  | cons p m ih =>
    obtain ⟨h1, h2⟩ := List.nodup_cons.1 hn
    have h1 : p.1 ∉ m.map (·.1) := h1
    cases j with
    | zero =>
      have : m.filter (fun q => decide (q.1 ≠ p.1)) = m := List.filter_eq_self.2 (fun q hq => by
        have : q.1 ≠ p.1 := fun e => h1 (by rw [← e]; exact List.mem_map.2 ⟨q, hq, rfl⟩)
        simpa using this)
      simp only [List.eraseIdx_cons_zero, List.getElem_cons_zero]
      rw [List.filter_cons_of_neg (by simp)]
      exact this.symm
    | succ j =>
      have hj' : j < m.length := by simpa using hj
      have hne : p.1 ≠ m[j].1 := fun e => h1 (by rw [e]; exact List.mem_map.2 ⟨m[j], List.getElem_mem _, rfl⟩)
      simp only [List.eraseIdx_cons_succ, List.getElem_cons_succ]
      rw [List.filter_cons_of_pos (by simpa using hne), ← ih h2 hj']
end
section
variable {κ : Type}
/-- The keys of a type: what a key is as a value, and what the machine does with it. -/
structure KeyT [DecidableEq κ] (P : Program) (K : TypeId) (kv : κ → Value) : Prop where
  find : ∀ (w : World) (k : κ) (es : List MapEntry) (m : List (κ × Value)), es.map (fun e => (e.key, e.val)) = m.map (fun p => (kv p.1, p.2)) → (Instr.findKey K (kv k) es).run P w = .ok (fndK m k 0) w
  check : ∀ (w : World) (b : Bool) (k : κ), (Instr.checkKey b 10000 K (kv k)).run P w = .ok () w
  inj : ∀ a b, kv a = kv b → a = b
theorem findAsk_struct [DecidableEq κ] {P : Program} {K : TypeId} {kv : κ → Value} (heq : ∀ a b w, (Op.equal K (kv a) (kv b)).run P w = .ok (decide (a = b)) w) (w : World) (k : κ) :
    ∀ (es : List MapEntry) (m : List (κ × Value)) (i : Nat), es.map (fun e => (e.key, e.val)) = m.map (fun p => (kv p.1, p.2)) → (Instr.findAsking K (kv k) es i).run P w = .ok (fndK m k i) w
  | [], [], i, _ => by simp [Instr.findAsking, fndK]
  | [], _ :: _, _, h => by simp at h
  | _ :: _, [], _, h => by simp at h
  | e :: es, p :: m, i, h => by
    simp only [List.map_cons, List.cons.injEq] at h
    obtain ⟨h1, h2⟩ := h
    have hk : e.key = kv p.1 := congrArg Prod.fst h1
    have hv : e.val = p.2 := congrArg Prod.snd h1
    have ih := findAsk_struct heq w k es m (i + 1) h2
    by_cases hp : p.1 = k
    · have e1 : (k = p.1) := hp.symm
      simp [Instr.findAsking, hk, hv, heq, fndK, hp, Result.andThen]
    · have e1 : ¬ (k = p.1) := fun e => hp e.symm
      simp [Instr.findAsking, hk, heq, fndK, hp, e1, Result.andThen, ih]
theorem find_struct [DecidableEq κ] {P : Program} {K : TypeId} {fs : Array Field} {kv : κ → Value} (hu : P.underlying K = some (.struct fs)) (ha : ∀ a, ∃ xs, kv a = .agg xs) (heq : ∀ a b w, (Op.equal K (kv a) (kv b)).run P w = .ok (decide (a = b)) w)
    (w : World) (k : κ) (es : List MapEntry) (m : List (κ × Value)) (h : es.map (fun e => (e.key, e.val)) = m.map (fun p => (kv p.1, p.2))) : (Instr.findKey K (kv k) es).run P w = .ok (fndK m k 0) w := by
  cases es with
  | nil =>
    cases m with
    | nil => simp [Instr.findKey, run_underlying hu, Instr.findNow, fndK, Result.andThen]
    | cons p m => simp at h
  | cons e es =>
    obtain ⟨xs, hx⟩ := ha k
    have hn : Instr.findNow (.struct fs) (kv k) (e :: es) 0 = none := by
      rw [hx]; simp [Instr.findNow, Instr.sameNow]
    have := findAsk_struct heq w k (e :: es) m 0 h
    simp [Instr.findKey, run_underlying hu, hn, Result.andThen, this]
/-- A map in a block: its pairs in the order in which they came; the stamps of its entries rise. -/
def MpK (kv : κ → Value) (w : World) (g : Nat) (m : List (κ × Value)) : Prop :=
  (m.map (·.1)).Nodup ∧ ∃ es clock, w.heap[g]? = some (.map es clock) ∧ es.toList.map (fun e => (e.key, e.val)) = m.map (fun p => (kv p.1, p.2)) ∧ es.toList.Pairwise (fun a b => a.born < b.born) ∧ ∀ e ∈ es.toList, e.born < clock
variable {kv : κ → Value}
theorem MpK.of_block {w w' : World} {g : Nat} {m : List (κ × Value)} (h : MpK kv w g m) (hb : w'.heap[g]? = w.heap[g]?) : MpK kv w' g m := by
  obtain ⟨h1, es, c, h2, h3⟩ := h
  exact ⟨h1, es, c, hb.trans h2, h3⟩
theorem MpK.lt {w : World} {g : Nat} {m : List (κ × Value)} (h : MpK kv w g m) : g < w.heap.size := by
  obtain ⟨h1, es, c, h2, h3⟩ := h
  rcases Nat.lt_or_ge g w.heap.size with q | q
  · exact q
  · rw [Array.getElem?_eq_none q] at h2; cases h2
theorem MpK.made (w : World) : MpK kv (w.alloc (.map #[] 0)) w.heap.size [] := ⟨by simp, #[], 0, heap_alloc_new w _, rfl, by simp, by simp⟩
theorem MpK.no_cell {w : World} {g : Nat} {m : List (κ × Value)} (h : MpK kv w g m) (o : Nat) : w.cell? ⟨g, o, none⟩ = none := by
  obtain ⟨h1, es, c, h2, h3⟩ := h
  simp [World.cell?, h2]
section
variable {P : Program} {w : World} {g : Nat} {m : List (κ × Value)} {T K E : TypeId}
theorem MpK.look_some [DecidableEq κ] (h : MpK kv w g m) (hK : KeyT P K kv) (ht : P.underlying T = some (.map K E)) {k : κ} {v : Value} (hv : lookK m k = some v) :
    (Instr.lookup T (.map (some g)) (kv k) true).run P w = .ok (.tuple #[v, .bool true]) w ∧ (Instr.lookup T (.map (some g)) (kv k) false).run P w = .ok v w := by
  obtain ⟨_, es, c, hb, he, _⟩ := h
  have hf := fndK_look m k 0
  rw [hv] at hf
  cases hq : fndK m k 0 with
  | none => rw [hq] at hf; cases hf
  | some x =>
    obtain ⟨j, u⟩ := x
    rw [hq] at hf
    simp at hf
    subst hf
    constructor <;> simp [Instr.lookup, run_underlying ht, MapKept.run_getObj_map hb, hK.check, hK.find w k _ m he, hq, Result.andThen]
theorem MpK.look_none [DecidableEq κ] (h : MpK kv w g m) (hK : KeyT P K kv) (ht : P.underlying T = some (.map K E)) {z : Value} (hz : (zeroValue E).run P w = .ok z w) {k : κ} (hv : lookK m k = none) :
    (Instr.lookup T (.map (some g)) (kv k) true).run P w = .ok (.tuple #[z, .bool false]) w ∧ (Instr.lookup T (.map (some g)) (kv k) false).run P w = .ok z w := by
  obtain ⟨_, es, c, hb, he, _⟩ := h
  have hf := fndK_look m k 0
  rw [hv] at hf
  cases hq : fndK m k 0 with
  | some x => rw [hq] at hf; cases hf
  | none => constructor <;> simp [Instr.lookup, run_underlying ht, MapKept.run_getObj_map hb, hK.check, hK.find w k _ m he, hq, Result.andThen, hz]
theorem setB_get {w : World} {g : Nat} (h : g < w.heap.size) (o : Obj) : (setBlock w g o).heap[g]? = some o := by simp [setBlock, h]
theorem setB_other {w : World} {g b : Nat} (h : b ≠ g) (o : Obj) : (setBlock w g o).heap[b]? = w.heap[b]? := by simp [setBlock, Array.getElem?_setIfInBounds_ne (Ne.symm h)]
theorem setB_size (w : World) (g : Nat) (o : Obj) : (setBlock w g o).heap.size = w.heap.size := by simp [setBlock]
/-- A new key. -/
theorem MpK.put [DecidableEq κ] (h : MpK kv w g m) (hK : KeyT P K kv) (ht : P.underlying T = some (.map K E)) {k : κ} (hv : lookK m k = none) (v : Value) :
    ∃ o, (Instr.mapUpdate T (.map (some g)) (kv k) v).run P w = .ok () (setBlock w g o) ∧ MpK kv (setBlock w g o) g (m ++ [(k, v)]) := by
  have hlt := h.lt
  obtain ⟨hn, es, c, hb, he, hp, hc⟩ := h
  have hf := fndK_look m k 0
  rw [hv] at hf
  cases hq : fndK m k 0 with
  | some x => rw [hq] at hf; cases hf
  | none =>
    refine ⟨.map (es.push { key := kv k, val := v, born := c }) (c + 1), ?_, ?_, es.push { key := kv k, val := v, born := c }, c + 1, setB_get hlt _, ?_, ?_, ?_⟩
    · simp [Instr.mapUpdate, run_underlying ht, MapKept.run_getObj_map hb, hK.check, hK.find w k _ m he, hq, Result.andThen, MapKept.run_setObj_map _ hb, setBlock]
    · rw [List.map_append]
      refine List.nodup_append.2 ⟨hn, by simp, ?_⟩
      intro a ha b hb2
      simp at hb2
      subst hb2
      intro e
      subst e
      exact lookK_none.1 hv ha
    · simp [he]
    · simp only [Array.toList_push]
      refine List.pairwise_append.2 ⟨hp, by simp, fun a ha b hb2 => ?_⟩
      simp at hb2
      subst hb2
      exact hc a ha
    · intro e he2
      simp only [Array.toList_push, List.mem_append, List.mem_singleton] at he2
      rcases he2 with q | q
      · have := hc e q; omega
      · subst q; simp
/-- A key that is there goes. -/
theorem MpK.del [DecidableEq κ] (h : MpK kv w g m) (hK : KeyT P K kv) (ht : P.underlying T = some (.map K E)) (k : κ) (ty ty2 : TypeId) :
    ∃ o, (Builtin.delete_ #[T, ty2] ty #[.map (some g), kv k]).run P w = .ok (.tuple #[]) (setBlock w g o) ∧ MpK kv (setBlock w g o) g (m.filter (fun p => p.1 ≠ k)) := by
  have hlt := h.lt
  obtain ⟨hn, es, c, hb, he, hp, hc⟩ := h
  have hle : es.size = m.length := by have := congrArg List.length he; simpa using this
  have hf := fndK_look m k 0
  cases hq : fndK m k 0 with
  | none =>
    rw [hq] at hf
    have hk := lookK_none.1 hf.symm
    have e : m.filter (fun p => decide (p.1 ≠ k)) = m := List.filter_eq_self.2 (fun p hp => by
      have : p.1 ≠ k := fun e => hk (by rw [← e]; exact List.mem_map.2 ⟨p, hp, rfl⟩)
      simpa using this)
    refine ⟨.map es c, ?_, by rw [e]; exact hn, es, c, setB_get hlt _, by rw [e]; exact he, hp, hc⟩
    simp [Builtin.delete_, run_underlying ht, MapKept.run_getObj_map hb, hK.check, hK.find w k _ m he, hq, Result.andThen, MapKept.run_setObj_map _ hb, setBlock]
  | some x =>
    obtain ⟨j, u⟩ := x
    obtain ⟨_, hj, h1, h2⟩ := fndK_spec hq
    simp only [Nat.sub_zero] at hj h1
    have hjs : j < es.size := by omega
    have e : m.filter (fun p => decide (p.1 ≠ k)) = m.eraseIdx j := by rw [eraseK_filter hn hj, h1]
    have hl : (es.eraseIdxIfInBounds j).toList = es.toList.eraseIdx j := by simp [Array.eraseIdxIfInBounds, hjs]
    refine ⟨.map (es.eraseIdxIfInBounds j) c, ?_, ?_, es.eraseIdxIfInBounds j, c, setB_get hlt _, ?_, ?_, ?_⟩
    · simp [Builtin.delete_, run_underlying ht, MapKept.run_getObj_map hb, hK.check, hK.find w k _ m he, hq, Result.andThen, MapKept.run_setObj_map _ hb, setBlock]
    · exact hn.sublist (List.Sublist.map _ (List.filter_sublist))
    · rw [hl, e, Go.ChangeMaps.map_eraseIdx, Go.ChangeMaps.map_eraseIdx, he]
    · rw [hl]; exact hp.sublist (List.eraseIdx_sublist _ _)
    · intro e2 he2
      rw [hl] at he2
      exact hc e2 (List.mem_of_mem_eraseIdx he2)
theorem MpK.len (h : MpK kv w g m) (ht : P.underlying T = some (.map K E)) (ty : TypeId) : (Builtin.len_ #[T] ty #[.map (some g)]).run P w = .ok (.int .i64 m.length) w := by
  obtain ⟨hn, es, c, hb, he, hp, hc⟩ := h
  have hle : es.size = m.length := by have := congrArg List.length he; simpa using this
  simp [Builtin.len_, run_underlying ht, MapKept.run_getObj_map hb, goInt, hle, Result.andThen]
/-- Going over a map: D has the keys that came already. -/
structure ItK (kv : κ → Value) (w : World) (g r : Nat) (m : List (κ × Value)) (D : List κ) : Prop where
  nodup : (m.map (·.1)).Nodup
  ne : r ≠ g
  ex : ∃ es clock since seen c0, w.heap[g]? = some (.map es clock) ∧ w.heap[r]? = some (.mapIter (some g) since seen c0) ∧ es.toList.map (fun e => (e.key, e.val)) = m.map (fun p => (kv p.1, p.2)) ∧
    es.toList.Pairwise (fun a b => a.born < b.born) ∧ (∀ e ∈ es.toList, e.born < clock) ∧ (∀ e ∈ es.toList, e.born < since) ∧ since ≤ c0 ∧ since ≤ clock ∧
    ∀ (i : Nat) (hi : i < es.toList.length) (hm : i < m.length), seen.contains es.toList[i].born = true ↔ m[i].1 ∈ D
theorem ItK.mp {r : Nat} {D : List κ} (h : ItK kv w g r m D) : MpK kv w g m := by
  obtain ⟨hn, _, es, clock, since, seen, c0, h1, h2, h3, h4, h5, _⟩ := h
  exact ⟨hn, es, clock, h1, h3, h4, h5⟩
theorem ItK.of_blocks {w' : World} {r : Nat} {D : List κ} (h : ItK kv w g r m D) (hg : w'.heap[g]? = w.heap[g]?) (hr : w'.heap[r]? = w.heap[r]?) : ItK kv w' g r m D := by
  obtain ⟨hn, ne, es, clock, since, seen, c0, h1, h2, h3⟩ := h
  exact ⟨hn, ne, es, clock, since, seen, c0, hg.trans h1, hr.trans h2, h3⟩
theorem ItK.lt {r : Nat} {D : List κ} (h : ItK kv w g r m D) : r < w.heap.size := by
  obtain ⟨hn, ne, es, clock, since, seen, c0, h1, h2, h3⟩ := h
  rcases Nat.lt_or_ge r w.heap.size with q | q
  · exact q
  · rw [Array.getElem?_eq_none q] at h2; cases h2
/-- It begins. -/
theorem MpK.start (h : MpK kv w g m) (ht : P.underlying T = some (.map K E)) : ∃ o, (Instr.range T (.map (some g))).run P w = .ok (.pointer (some ⟨w.heap.size, 0, none⟩)) (w.alloc o) ∧ ItK kv (w.alloc o) g w.heap.size m [] := by
  have hlt := h.lt
  obtain ⟨hn, es, c, hb, he, hp, hc⟩ := h
  refine ⟨.mapIter (some g) c #[] c, ?_, hn, by omega, es, c, c, #[], c, ?_, heap_alloc_new w _, he, hp, hc, hc, Nat.le_refl _, Nat.le_refl _, fun i hi hm => by simp⟩
  · simp [Instr.range, run_underlying ht, MapKept.run_getObj_map hb, Result.andThen, newObj]
    rfl
  · rw [Below.heap_alloc _ _ _ hlt]; exact hb
theorem map_at {es : List MapEntry} (he : es.map (fun e => (e.key, e.val)) = m.map (fun p => (kv p.1, p.2))) {i : Nat} (hi : i < es.length) (hm : i < m.length) : es[i].key = kv m[i].1 ∧ es[i].val = m[i].2 := by
  have := congrArg (fun l : List (Value × Value) => l[i]?) he
  simp [hi, hm] at this
  exact this
theorem born_inj {es : List MapEntry} (hp : es.Pairwise (fun a b => a.born < b.born)) {i j : Nat} (hi : i < es.length) (hj : j < es.length) (e : es[i].born = es[j].born) : i = j := by
  rcases Nat.lt_trichotomy i j with q | q | q
  · have := (List.pairwise_iff_getElem.1 hp) i j hi hj q; omega
  · exact q
  · have := (List.pairwise_iff_getElem.1 hp) j i hj hi q; omega
/-- The next step: all came, or one that did not comes. -/
theorem ItK.next {r : Nat} {D : List κ} (h : ItK kv w g r m D) :
    ((∀ p ∈ m, p.1 ∈ D) ∧ ∀ ty, (Instr.next (.pointer (some ⟨r, 0, none⟩)) false ty).run P w = .ok (.tuple #[.bool false]) w) ∨
    ∃ k v w', (k, v) ∈ m ∧ k ∉ D ∧ (∀ ty, (Instr.next (.pointer (some ⟨r, 0, none⟩)) false ty).run P w = .ok (.tuple #[.bool true, kv k, v]) w') ∧ ItK kv w' g r m (D ++ [k]) ∧
      (Instr.entry (.pointer (some ⟨r, 0, none⟩))).run P w' = .ok (.tuple #[kv k, v]) w' ∧ (∃ w1 o, (w1 = w ∨ w1 = w.drew) ∧ w' = setBlock w1 r o) := by
  have hlt := h.lt
  obtain ⟨hn, ne, es, clock, since, seen, c0, hb, hr, he, hp, hc, hs, s1, s2, hd⟩ := h
  have hle : es.toList.length = m.length := by have := congrArg List.length he; simpa using this
  have hnb : (es.toList.map (·.born)).Nodup := by
    refine List.pairwise_map.2 (hp.imp (fun {a b} q => ?_))
    show a.born ≠ b.born
    omega
  rcases run_next_at (P := P) w 0 r g since c0 seen es clock hr hb hs s1 with ⟨h0, hrun⟩ | ⟨e, hmem, w1, hw1, hrun⟩
  · refine .inl ⟨fun p hpm => ?_, fun ty => hrun⟩
    obtain ⟨i, hi, rfl⟩ := List.getElem_of_mem hpm
    have hi' : i < es.toList.length := by omega
    refine (hd i hi' hi).1 ?_
    cases hcn : seen.contains es.toList[i].born with
    | true => rfl
    | false =>
      exfalso
      have : es.toList[i] ∈ (leftOf es seen).toList := by
        unfold leftOf
        simp only [Array.toList_filter, List.mem_filter]
        exact ⟨List.getElem_mem _, by rw [hcn]; rfl⟩
      have hz : (leftOf es seen).toList.length = 0 := by simpa using h0
      rw [List.eq_nil_of_length_eq_zero hz] at this
      cases this
  · right
    obtain ⟨h1, h2⟩ := mem_left hmem
    obtain ⟨i, hi, rfl⟩ := List.getElem_of_mem h1
    have him : i < m.length := by omega
    obtain ⟨ek, ev⟩ := map_at he hi him
    have hkD : m[i].1 ∉ D := fun q => by
      have := (hd i hi him).2 q
      rw [h2] at this; cases this
    have hw1b : ∀ b, w1.heap[b]? = w.heap[b]? := fun (b : Nat) => by rcases hw1 with e | e <;> rw [e] <;> rfl
    have hw1s : w1.heap.size = w.heap.size := by rcases hw1 with e | e <;> rw [e] <;> rfl
    have hr1 : (setBlock w1 r (.mapIter (some g) since (seen.push es.toList[i].born) clock)).heap[r]? = some (.mapIter (some g) since (seen.push es.toList[i].born) clock) := setB_get (by omega) _
    have hb1 : (setBlock w1 r (.mapIter (some g) since (seen.push es.toList[i].born) clock)).heap[g]? = some (.map es clock) := by
      rw [setB_other (Ne.symm ne), hw1b]; exact hb
    refine ⟨m[i].1, m[i].2, _, List.getElem_mem _, hkD, ?_, ⟨hn, ne, es, clock, since, seen.push es.toList[i].born, clock, hb1, hr1, he, hp, hc, hs, s2, s2, ?_⟩, ?_, w1, _, hw1, rfl⟩
    · intro ty; rw [← ek, ← ev]; exact hrun
    · intro j hj hjm
      rw [List.mem_append, List.mem_singleton]
      have hcp : (seen.push es.toList[i].born).contains es.toList[j].born = true ↔ (seen.contains es.toList[j].born = true ∨ es.toList[j].born = es.toList[i].born) := by
        simp
      rw [hcp, hd j hj hjm]
      constructor
      · rintro (q | q)
        · exact .inl q
        · have := born_inj hp hj hi q
          subst this; exact .inr rfl
      · rintro (q | q)
        · exact .inl q
        · have : j = i := by
            have hnm : (m.map (·.1)).Nodup := hn
            have h3 : (m.map (·.1))[j]'(by simpa using hjm) = (m.map (·.1))[i]'(by simpa using him) := by simpa using q
            exact (List.getElem_inj hnm).1 h3
          subst this; exact .inr rfl
    · rw [← ek, ← ev]
      exact run_entry_at _ r g since seen es clock es.toList[i] hr1 hb1 h1 hnb
/-- One that came goes, while it is gone over. -/
theorem ItK.del [DecidableEq κ] {r : Nat} {D : List κ} (h : ItK kv w g r m D) (hK : KeyT P K kv) (ht : P.underlying T = some (.map K E)) {k : κ} (hk : k ∈ D) (ty ty2 : TypeId) :
    ∃ o, (Builtin.delete_ #[T, ty2] ty #[.map (some g), kv k]).run P w = .ok (.tuple #[]) (setBlock w g o) ∧ ItK kv (setBlock w g o) g r (m.filter (fun p => p.1 ≠ k)) D := by
  have hlt := h.mp.lt
  obtain ⟨hn, ne, es, clock, since, seen, c0, hb, hr, he, hp, hc, hs, s1, s2, hd⟩ := h
  have hle : es.size = m.length := by have := congrArg List.length he; simpa using this
  have hle2 : es.toList.length = m.length := by simpa using hle
  have hf := fndK_look m k 0
  cases hq : fndK m k 0 with
  | none =>
    rw [hq] at hf
    have hk2 := lookK_none.1 hf.symm
    have e : m.filter (fun p => decide (p.1 ≠ k)) = m := List.filter_eq_self.2 (fun p hp => by
      have : p.1 ≠ k := fun e => hk2 (by rw [← e]; exact List.mem_map.2 ⟨p, hp, rfl⟩)
      simpa using this)
    refine ⟨.map es clock, ?_, ?_⟩
    · simp [Builtin.delete_, run_underlying ht, MapKept.run_getObj_map hb, hK.check, hK.find w k _ m he, hq, Result.andThen, MapKept.run_setObj_map _ hb, setBlock]
    · rw [e]
      exact ⟨hn, ne, es, clock, since, seen, c0, setB_get hlt _, by rw [setB_other ne]; exact hr, he, hp, hc, hs, s1, s2, hd⟩
  | some x =>
    obtain ⟨j, u⟩ := x
    obtain ⟨_, hj, h1, h2⟩ := fndK_spec hq
    simp only [Nat.sub_zero] at hj h1
    have hjs : j < es.size := by omega
    have e : m.filter (fun p => decide (p.1 ≠ k)) = m.eraseIdx j := by rw [eraseK_filter hn hj, h1]
    have hl : (es.eraseIdxIfInBounds j).toList = es.toList.eraseIdx j := by simp [Array.eraseIdxIfInBounds, hjs]
    refine ⟨.map (es.eraseIdxIfInBounds j) clock, ?_, ?_⟩
    · simp [Builtin.delete_, run_underlying ht, MapKept.run_getObj_map hb, hK.check, hK.find w k _ m he, hq, Result.andThen, MapKept.run_setObj_map _ hb, setBlock]
    · rw [e]
      refine ⟨?_, ne, es.eraseIdxIfInBounds j, clock, since, seen, c0, setB_get hlt _, by rw [setB_other ne]; exact hr, ?_, ?_, ?_, ?_, s1, s2, ?_⟩
      · exact hn.sublist (List.Sublist.map _ (List.eraseIdx_sublist _ _))
      · rw [hl, Go.ChangeMaps.map_eraseIdx, Go.ChangeMaps.map_eraseIdx, he]
      · rw [hl]; exact hp.sublist (List.eraseIdx_sublist _ _)
      · intro e2 he2; rw [hl] at he2; exact hc e2 (List.mem_of_mem_eraseIdx he2)
      · intro e2 he2; rw [hl] at he2; exact hs e2 (List.mem_of_mem_eraseIdx he2)
      · intro i hi hm
        rw [hl] at hi
        have hi2 : i < (es.toList.eraseIdx j).length := hi
        have hm2 : i < (m.eraseIdx j).length := hm
        rw [List.length_eraseIdx] at hi2 hm2
        simp only [hl]
        rw [List.getElem_eraseIdx, List.getElem_eraseIdx]
        split at hi2
        · split
          · exact hd i (by omega) (by omega)
          · exact hd (i + 1) (by omega) (by omega)
        · rename_i q; exact absurd (by simpa using hjs) q
end
end
end Go.Proofs.YtmajlldfiiokoaaGreatDoor

/- tree.Tree in memory: whom a node tells; how deep a node is. -/
namespace Go.Proofs.YtmajlldfiiokoaaGreatDoor
open Go.ChangeShapes Go.WideShapes Go.ChangeAt Go.RowKit Go.Deep
open Go.ChangeMaps (setBlock)
set_option linter.unusedVariables false

def kvI (k : Int) : Value := .int .i64 k
theorem findNow_intK (q : IntKind) (k : Int) : ∀ (es : List MapEntry) (m : List (Int × Value)) (i : Nat), es.map (fun e => (e.key, e.val)) = m.map (fun p => (kvI p.1, p.2)) → Instr.findNow (.int q) (.int .i64 k) es i = some (fndK m k i)
  | [], [], _, _ => rfl
  | [], _ :: _, _, h => by simp at h
  | _ :: _, [], _, h => by simp at h
  | e :: es, p :: m, i, h => by
    simp only [List.map_cons, List.cons.injEq] at h
    obtain ⟨h1, h2⟩ := h
    have hk : e.key = .int .i64 p.1 := congrArg Prod.fst h1
    have hv : e.val = p.2 := congrArg Prod.snd h1
    have ih := findNow_intK q k es m (i + 1) h2
    by_cases hp : p.1 = k
    · simp [Instr.findNow, Instr.sameNow, hk, fndK, hp, hv]
    · have hp' : ¬ k = p.1 := fun e => hp e.symm
      have e1 : (k == p.1) = false := by simpa using hp'
      simp only [Instr.findNow, Instr.sameNow, hk, fndK, e1, hp, if_true, if_false]
      simpa using ih
theorem key_int : KeyT Tryz.prog 3 kvI :=
  ⟨fun w k es m h => by
    have hn := findNow_intK .i64 k es m 0 h
    simp [Instr.findKey, run_underlying Tryz.underlying3, kvI, hn, Result.andThen], fun w b k => by unfold kvI; kernel_rfl, fun a b h => by simpa [kvI] using h⟩
def upV (m : List (Int × Int)) : List (Int × Value) := m.map fun p => (p.1, .int .i64 p.2)
theorem look_upV (m : List (Int × Int)) (k : Int) : lookK (upV m) k = (lookI m k).map (Value.int .i64) := by
  induction m with
  | nil => rfl
  | cons p m ih =>
    unfold upV at ih ⊢
    by_cases h : p.1 = k
    · simp [lookK, lookI, h]
    · simp only [List.map_cons, lookK, lookI, h, if_false]; exact ih
theorem upV_snoc (m : List (Int × Int)) (k v : Int) : upV m ++ [(k, .int .i64 v)] = upV (m ++ [(k, v)]) := by simp [upV]
theorem upV_keys (m : List (Int × Int)) : (upV m).map (·.1) = m.map (·.1) := by simp [upV, Function.comp_def]
theorem upV_mem {m : List (Int × Int)} {k : Int} {x : Value} (h : (k, x) ∈ upV m) : ∃ v, x = .int .i64 v ∧ (k, v) ∈ m := by
  obtain ⟨p, hp, e⟩ := List.mem_map.1 h
  simp at e
  obtain ⟨rfl, rfl⟩ := e
  exact ⟨p.2, rfl, hp⟩
/-- Who tells whom, in memory. -/
abbrev UpAt (w : World) (g : Nat) (m : List (Int × Int)) : Prop := MpK kvI w g (upV m)
theorem zero_int (w : World) : (zeroValue 3).run Tryz.prog w = .ok (.int .i64 0) w := by kernel_rfl
theorem UpAt.ask {w : World} {g : Nat} {m : List (Int × Int)} (h : UpAt w g m) (n : Int) :
    (Instr.lookup 41 (.map (some g)) (.int .i64 n) true).run Tryz.prog w = .ok (.tuple #[.int .i64 ((lookI m n).getD 0), .bool (lookI m n).isSome]) w ∧
    (Instr.lookup 41 (.map (some g)) (.int .i64 n) false).run Tryz.prog w = .ok (.int .i64 ((lookI m n).getD 0)) w := by
  cases hq : lookI m n with
  | none =>
    have := h.look_none (P := Tryz.prog) key_int Tryz.underlying41 (zero_int w) (k := n) (by rw [look_upV, hq]; rfl)
    simpa [kvI] using this
  | some v =>
    have := h.look_some (P := Tryz.prog) key_int Tryz.underlying41 (k := n) (v := .int .i64 v) (by rw [look_upV, hq]; rfl)
    simpa [kvI] using this
theorem UpAt.below {w w' : World} {g : Nat} {m : List (Int × Int)} (h : UpAt w g m) (hb : Below w.heap.size w w') : UpAt w' g m := h.of_block (hb.block _ h.lt)

theorem tells_any (root : Int) (g : Nat) (m : List (Int × Int)) (n : Int) (w : World) (h : UpAt w g m) :
    Calls Tryz.prog 49 #[.agg #[.int .i64 root, .map (some g)], .int .i64 n] w fun e w' => e = .returned (.bool (lookI m n).isSome) ∧ Below w.heap.size w w' := by
  obtain ⟨W, hW⟩ : ∃ W, W = w.alloc (.cells #[.int .i64 root, .map (some g)] 43) := ⟨_, rfl⟩
  have hk := ((h.below (below_one _ _)).ask (w := w.alloc (.cells #[.int .i64 root, .map (some g)] 43)) n).1
  clear h
  generalize (lookI m n).getD 0 = v at hk
  generalize (lookI m n).isSome = b at hk ⊢
  go_enter Tryz.func49, Tryz.ntmps49
  go_wp2
  go_ret
  exact ⟨rfl, below_one _ _⟩
set_option maxHeartbeats 1000000 in
theorem depth_any (t : Tr) (g : Nat) (n : Int) (w : World) (h : UpAt w g t.up) (hl : t.up.length ≤ 100000) :
    Calls Tryz.prog 20 #[.agg #[.int .i64 t.root, .map (some g)], .int .i64 n] w fun e w' => e = .returned (.int .i64 (t.depth n)) ∧ Below w.heap.size w w' := by
  obtain ⟨root, up⟩ := t
  simp only at h hl
  obtain ⟨q, hq⟩ : ∃ q, q = w.heap.size := ⟨_, rfl⟩
  obtain ⟨W, hW⟩ : ∃ W, W = w.alloc (.cells #[.int .i64 root, .map (some g)] 43) := ⟨_, rfl⟩
  have hbW : Below w.heap.size w W := by rw [hW]; exact below_one _ _
  have c0 : W.cell? ⟨q, 0, none⟩ = some (.int .i64 root) := by rw [hW, hq]; exact World.cell?_alloc_new ..
  have c1 : W.cell? ⟨q, 1, none⟩ = some (.map (some g)) := by rw [hW, hq]; simp
  have H : Hid (UpAt W g up ∧ Below w.heap.size w W) := ⟨h.below hbW, hbW⟩
  have hlen := fun ty => H.out.1.len (P := Tryz.prog) Tryz.underlying41 ty
  have hul : (upV up).length = up.length := by simp [upV]
  rw [hul] at hlen
  clear hul h hbW
  go_enter Tryz.func20, Tryz.ntmps20
  by_cases hr : root = -1
  · have e1 : (root == -1) = true := by simpa using hr
    have HD : Hid ((⟨root, up⟩ : Tr).depth n = -1) := by show Tr.depth _ n = -1; unfold Tr.depth; rw [if_pos hr]
    clear hr
    go_upto_region 1 with fail
    rw [← hW]
    try rw [← hq]
    clear hW hq
    go_wp2
    go_ret
    exact ⟨ret_i HD.out.symm, H.out.2⟩
  · have e1 : (root == -1) = false := by simpa using hr
    have HD : Hid ((⟨root, up⟩ : Tr).depth n = (⟨root, up⟩ : Tr).dep (up.length + 1) 0 n) := by show Tr.depth _ n = _; unfold Tr.depth; rw [if_neg hr]
    clear hr
    generalize (⟨root, up⟩ : Tr).depth n = dd at HD ⊢
    go_upto_region 1 with fail
    rw [← hW]
    try rw [← hq]
    clear hW hq
    go_wp2
    clear hlen
    go_loopg [1, 13] (up.length + 1) (fun kx nv s wr => ∃ (j : Nat) (m : Int), s = .int .i64 j ∧ nv = .int .i64 m ∧ j ≤ up.length + 1 ∧ kx = up.length + 1 - j ∧ Hid (Below W.heap.size W wr ∧ dd = (⟨root, up⟩ : Tr).dep (up.length + 1 - j) j m))
    case atStart => exact ⟨0, n, rfl, rfl, Nat.zero_le _, rfl, ⟨Below.refl _ _, HD.out⟩⟩
    case round =>
      obtain ⟨j, m, rfl, rfl, hj, rfl, HB⟩ := hrel
      have d0 := cell_grown c0 HB.out.1
      have d1 := cell_grown c1 HB.out.1
      by_cases hlt : j < up.length + 1
      · have hltI : (j : Int) < (up.length : Int) + 1 := by omega
        have HS : Hid (dd = if m = root then (j : Int) else match lookI up m with | none => -1 | some v => (⟨root, up⟩ : Tr).dep (up.length + 1 - (j + 1)) (j + 1) v) := by
          have := HB.out.2
          rw [show up.length + 1 - j = (up.length + 1 - (j + 1)) + 1 by omega] at this
          exact this
        by_cases hm : m = root
        · have e2 : (m == root) = true := by simpa using hm
          have HE : Hid (dd = (j : Int)) := by have := HS.out; rw [if_pos hm] at this; exact this
          clear hm
          go_wp2
          go_ret
          exact ⟨ret_i HE.out.symm, H.out.2.trans (HB.out.1.mono H.out.2.size)⟩
        · have e2 : (m == root) = false := by simpa using hm
          have HU : Hid (UpAt wr g up) := H.out.1.below HB.out.1
          have HS2 := HS.out
          rw [if_neg hm] at HS2
          clear hm
          cases hv : lookI up m with
          | none =>
            rw [hv] at HS2
            have HE : Hid (dd = -1 ∧ lookI up m = none) := ⟨HS2, hv⟩
            clear HS2 hv
            go_wp2_with (go_at_call 49; refine (tells_any root g up m _ HU.out).mono ?_; rintro e w2 ⟨rfl, b2⟩; rw [HE.out.2])
            go_ret
            exact ⟨ret_i HE.out.1.symm, (H.out.2.trans (HB.out.1.mono H.out.2.size)).trans (b2.mono (Nat.le_trans H.out.2.size HB.out.1.size))⟩
          | some v =>
            rw [hv] at HS2
            have HE : Hid (dd = (⟨root, up⟩ : Tr).dep (up.length + 1 - (j + 1)) (j + 1) v ∧ lookI up m = some v) := ⟨HS2, hv⟩
            clear HS2 hv
            go_wp2_with fail
            refine (tells_any root g up m _ HU.out).mono ?_
            rintro e w2 ⟨rfl, b2⟩
            rw [HE.out.2]
            have f0 := cell_grown d0 b2
            have f1 := cell_grown d1 b2
            have HB2 : Hid (Below W.heap.size W w2) := HB.out.1.trans (b2.mono HB.out.1.size)
            have hk := ((H.out.1.below HB2.out).ask m).2
            rw [HE.out.2] at hk
            clear b2 d0 d1
            go_wp2
            go_roundg (up.length + 1 - (j + 1))
            case measure => omega
            case rel => exact ⟨j + 1, v, by go_num, rfl, by omega, rfl, ⟨HB2.out, HE.out.1⟩⟩
      · obtain rfl : j = up.length + 1 := by omega
        have hltI : ¬ ((up.length + 1 : Nat) : Int) < (up.length : Int) + 1 := by omega
        have HE : Hid (dd = -1) := by have := HB.out.2; simp [Tr.dep] at this; exact this
        go_wp2
        go_ret
        exact ⟨ret_i HE.out.symm, H.out.2.trans (HB.out.1.mono H.out.2.size)⟩
end Go.Proofs.YtmajlldfiiokoaaGreatDoor

/- What ring.Hash and the document's Hash answer: one and the same number. -/
namespace Go.Proofs.YtmajlldfiiokoaaGreatDoor
set_option linter.unusedVariables false
open Go.ChangeShapes Go.WideShapes Go.ChangeAt Go.RowKit

def hstep (h : Int) (c : UInt8) : Int :=
  bits .xor .u64 (IntKind.u64.wrap (bits .xor .u64 h (IntKind.u64.wrap c.toNat) * 18397679294719823053)) (IntKind.u64.wrap (bits .xor .u64 h (IntKind.u64.wrap c.toNat) * 18397679294719823053) / 4294967296)
def hashTo (n : Nat) (l : List UInt8) : Int := l.foldl hstep (bits .xor .u64 11400714819323198485 n)
def hend (h : Int) : Int :=
  bits .xor .u64 (IntKind.u64.wrap (h * 14181476777654086739)) (IntKind.u64.wrap (h * 14181476777654086739) / 536870912)
def hashN (s : ByteArray) : Int := hend (hashTo s.size s.data.toList)

theorem hashTo_snoc (s : ByteArray) (k : Nat) (h : k < s.size) : hashTo s.size (s.data.toList.take (k + 1)) = hstep (hashTo s.size (s.data.toList.take k)) s[k] := by
  rw [take_snoc s k h, hashTo, List.foldl_append]; rfl

theorem hashTo_all (s : ByteArray) (k : Nat) (h : ¬ k < s.size) : hend (hashTo s.size (s.data.toList.take k)) = hashN s := by
  rw [List.take_of_length_le (by simpa using h)]; rfl

theorem quo_wrap (x d : Int) (hd : 1 ≤ d) : IntKind.u64.wrap ((IntKind.u64.wrap x).tdiv d) = IntKind.u64.wrap x / d := by
  have h0 : 0 ≤ IntKind.u64.wrap x ∧ IntKind.u64.wrap x < 18446744073709551616 := by
    show 0 ≤ x % 18446744073709551616 ∧ x % 18446744073709551616 < 18446744073709551616
    omega
  generalize IntKind.u64.wrap x = y at *
  rw [Int.tdiv_eq_ediv_of_nonneg h0.1]
  show (y / d) % 18446744073709551616 = y / d
  have h1 : 0 ≤ y / d := Int.ediv_nonneg h0.1 (by omega)
  have h2 : y / d ≤ y := Int.ediv_le_self _ h0.1
  omega

theorem hash_any (s : ByteArray) (w : World) (hs : s.size ≤ 300) :
    Calls Tryz.prog 78 #[.string s] w fun e w' => e = .returned (.int .u64 (hashN s)) ∧ w' = w := by
  go_enter Tryz.func78, Tryz.ntmps78
  go_wp2
  go_loop [3, 11] (fun h i => ∃ k : Nat, k ≤ s.size ∧ i = .int .i64 k ∧ h = .int .u64 (hashTo s.size (s.data.toList.take k))) (fun _ i => s.size - (intOf i).toNat)
  case atStart => exact ⟨0, Nat.zero_le _, rfl, rfl⟩
  case round =>
    obtain ⟨k, hk, rfl, rfl⟩ := hrel
    by_cases hlt : k < s.size
    · have H : Hid (hashTo s.size (s.data.toList.take (k + 1)) = hstep (hashTo s.size (s.data.toList.take k)) s[k]) := hashTo_snoc s k hlt
      go_wp2
      go_round
      case rel => exact ⟨k + 1, by omega, by go_num, int_eq H.out.symm⟩
      case measure => simp [intOf]; omega
    · have H : Hid (hend (hashTo s.size (s.data.toList.take k)) = hashN s) := hashTo_all s k hlt
      go_wp2
      go_ret
      exact ⟨ret_i H.out, rfl⟩

theorem refhash_any (s : ByteArray) (w : World) (hs : s.size ≤ 300) :
    Calls Tryz.prog 122 #[.string s] w fun e w' => e = .returned (.int .u64 (hashN s)) ∧ w' = w := by
  go_enter Tryz.func122, Tryz.ntmps122
  go_wp2
  go_loop [3, 4] (fun h i => ∃ k : Nat, k ≤ s.size ∧ i = .int .i64 k ∧ h = .int .u64 (hashTo s.size (s.data.toList.take k))) (fun _ i => s.size - (intOf i).toNat)
  case atStart => exact ⟨0, Nat.zero_le _, rfl, rfl⟩
  case round =>
    obtain ⟨k, hk, rfl, rfl⟩ := hrel
    by_cases hlt : k < s.size
    · have H : Hid (hashTo s.size (s.data.toList.take (k + 1)) = hstep (hashTo s.size (s.data.toList.take k)) s[k]) := hashTo_snoc s k hlt
      go_wp2
      go_round
      case rel => exact ⟨k + 1, by omega, by go_num, int_eq (by rw [H.out, quo_wrap _ _ (by omega)]; rfl)⟩
      case measure => simp [intOf]; omega
    · have H : Hid (hend (hashTo s.size (s.data.toList.take k)) = hashN s) := hashTo_all s k hlt
      go_wp2
      go_ret
      exact ⟨ret_i (by rw [← H.out, quo_wrap _ _ (by omega)]; rfl), rfl⟩

end Go.Proofs.YtmajlldfiiokoaaGreatDoor

/- tree.growth: walk; tree.Of. -/
namespace Go.Proofs.YtmajlldfiiokoaaGreatDoor
open Go.ChangeShapes Go.WideShapes Go.ChangeAt Go.RowKit Go.Deep
open Go.ChangeMaps (setBlock)
set_option linter.unusedVariables false

/-- A code as an error. -/
def codeV (c : Int) : Value := if c = 0 then .nilIface else .iface 116 (.int .i64 c)
/-- What a Walker answers. -/
def nxV : Option Int → Value
  | some v => .tuple #[.int .i64 v, .nilIface]
  | none => .tuple #[.int .i64 (-1), .iface 116 (.int .i64 6)]
/-- A Walker: who is next. -/
structure Wk (w0 : World) (T : TypeId) (v : Value) (K : Nat) (x : Int) (nx : Int → Option Int) : Prop where
  mth : ∀ w, (method 432 T v "Next").run Tryz.prog w = .ok (K, v) w
  ent : ∀ (args : Array Value) w, (callFunc K args).run Tryz.prog w = .ok (.enter K args) w
  call : ∀ W n, Below w0.heap.size w0 W → Calls Tryz.prog K #[v, .int .i64 n, .int .u64 x] W fun e w' => e = .returned (nxV (nx n)) ∧ Below W.heap.size W w'
/-- A tree that is being made, in memory. -/
structure GwAt (w : World) (q g : Nat) (t : Tr) (wk : Value) (x : Int) : Prop where
  box : w.heap[q]? = some (.cells #[.int .i64 t.root, .map (some g), wk, .int .u64 x, .bool (t.root != -1)] 115 (0, 0))
  up : UpAt w g t.up
theorem GwAt.ne {w : World} {q g : Nat} {t : Tr} {wk : Value} {x : Int} (h : GwAt w q g t wk x) : q ≠ g := fun e => by
  obtain ⟨_, es, c, hb, _⟩ := h.up
  have := h.box
  rw [e, hb] at this
  cases this
theorem GwAt.below {w w' : World} {q g : Nat} {t : Tr} {wk : Value} {x : Int} (h : GwAt w q g t wk x) (hb : Below w.heap.size w w') : GwAt w' q g t wk x :=
  ⟨(hb.block _ (lt_of_block h.box)).trans h.box, h.up.below hb⟩
theorem GwAt.cells {w : World} {q g : Nat} {t : Tr} {wk : Value} {x : Int} (h : GwAt w q g t wk x) :
    w.cell? ⟨q, 0, none⟩ = some (.int .i64 t.root) ∧ w.cell? ⟨q, 1, none⟩ = some (.map (some g)) ∧ w.cell? ⟨q, 2, none⟩ = some wk ∧ w.cell? ⟨q, 3, none⟩ = some (.int .u64 x) ∧ w.cell? ⟨q, 4, none⟩ = some (.bool (t.root != -1)) ∧ q < w.heap.size ∧ ∀ o, w.frozen? ⟨q, o, none⟩ = false := by
  have hb := h.box
  refine ⟨by simp [World.cell?, hb], by simp [World.cell?, hb], by simp [World.cell?, hb], by simp [World.cell?, hb], by simp [World.cell?, hb], lt_of_block hb, fun o => by simp [World.frozen?, hb]⟩
theorem setCell_block {w : World} {q : Nat} {cs : Array Value} {T : TypeId} (h : w.heap[q]? = some (.cells cs T (0, 0))) (o : Nat) (v : Value) : (w.setCell ⟨q, o, none⟩ v).heap[q]? = some (.cells (cs.setIfInBounds o v) T (0, 0)) := by
  simp [World.setCell, Array.getElem?_modify, h]
theorem GwAt.rooted {w : World} {q g : Nat} {t : Tr} {wk : Value} {x : Int} (h : GwAt w q g t wk x) (n : Int) (hn : n ≠ -1) :
    GwAt ((w.setCell ⟨q, 0, none⟩ (.int .i64 n)).setCell ⟨q, 4, none⟩ (.bool true)) q g ⟨n, t.up⟩ wk x := by
  have hb := h.box
  have hq := lt_of_block hb
  refine ⟨?_, h.up.of_block ?_⟩
  · have e : (n != -1) = true := by simpa using hn
    have b1 := setCell_block hb 0 (.int .i64 n)
    have b2 := setCell_block b1 4 (.bool true)
    rw [e]
    simpa using b2
  · rw [Below.heap_setCell _ _ _ _ (Ne.symm h.ne), Below.heap_setCell _ _ _ _ (Ne.symm h.ne)]

theorem has_any (q g : Nat) (t : Tr) (wk : Value) (x n : Int) (w : World) (h : GwAt w q g t wk x) :
    Calls Tryz.prog 97 #[.pointer (some ⟨q, 0, none⟩), .int .i64 n] w fun e w' => e = .returned (.bool (t.has n)) ∧ Below w.heap.size w w' := by
  have H : Hid (GwAt w q g t wk x) := h
  obtain ⟨c0, c1, c2, c3, c4, cl, cf⟩ := h.cells
  clear h c2 c3 cf
  obtain ⟨root, up⟩ := t
  simp only at c0 c4
  cases hq : (lookI up n).isSome with
  | true =>
    have HB : Hid ((lookI up n).isSome = true ∧ (⟨root, up⟩ : Tr).has n = true) := ⟨hq, by unfold Tr.has Tr.tells; simp only; rw [hq]; rfl⟩
    clear hq
    go_enter Tryz.func97, Tryz.ntmps97
    go_wp2_with (go_at_call 49; refine (tells_any root g up n _ (H.out.up)).mono ?_; rintro e w2 ⟨rfl, b2⟩; rw [HB.out.1])
    go_ret
    exact ⟨ret_b HB.out.2.symm, b2⟩
  | false =>
    have HB : Hid ((lookI up n).isSome = false ∧ (⟨root, up⟩ : Tr).has n = (root != -1 && n == root)) := ⟨hq, by unfold Tr.has Tr.tells; simp only; rw [hq]; rfl⟩
    clear hq
    by_cases hr : root = -1
    · have e1 : (root != -1) = false := by simpa using hr
      rw [e1] at c4
      have HC : Hid ((⟨root, up⟩ : Tr).has n = false) := by show Tr.has _ n = false; rw [HB.out.2, e1]; rfl
      clear hr e1
      go_enter Tryz.func97, Tryz.ntmps97
      go_wp2_with (go_at_call 49; refine (tells_any root g up n _ (H.out.up)).mono ?_; rintro e w2 ⟨rfl, b2⟩; rw [HB.out.1]
                   have d4 := cell_grown c4 b2)
      go_ret
      exact ⟨ret_b HC.out.symm, b2⟩
    · have e1 : (root != -1) = true := by simpa using hr
      rw [e1] at c4
      have HC : Hid ((⟨root, up⟩ : Tr).has n = (n == root)) := by show Tr.has _ n = _; rw [HB.out.2, e1]; rfl
      clear hr e1
      go_enter Tryz.func97, Tryz.ntmps97
      go_wp2_with (go_at_call 49; refine (tells_any root g up n _ (H.out.up)).mono ?_; rintro e w2 ⟨rfl, b2⟩; rw [HB.out.1]
                   have d4 := cell_grown c4 b2
                   have d0 := cell_grown c0 b2)
      go_ret
      exact ⟨ret_b HC.out.symm, b2⟩

theorem root_no (q g : Nat) (t : Tr) (wk : Value) (x n : Int) (w : World) (h : GwAt w q g t wk x) (hr : t.root ≠ -1) :
    Calls Tryz.prog 98 #[.pointer (some ⟨q, 0, none⟩), .int .i64 n] w fun e w' => e = .returned (.iface 116 (.int .i64 5)) ∧ w' = w := by
  obtain ⟨c0, c1, c2, c3, c4, cl, cf⟩ := h.cells
  have e1 : (t.root != -1) = true := by simpa using hr
  rw [e1] at c4
  clear h c0 c1 c2 c3 cf e1 hr
  go_enter Tryz.func98, Tryz.ntmps98
  go_wp2
  go_ret
  exact ⟨rfl, rfl⟩
theorem root_yes (q g : Nat) (t : Tr) (wk : Value) (x n : Int) (w : World) (h : GwAt w q g t wk x) (hr : t.root = -1) (hn : n ≠ -1) :
    Calls Tryz.prog 98 #[.pointer (some ⟨q, 0, none⟩), .int .i64 n] w fun e w' => e = .returned .nilIface ∧ GwAt w' q g ⟨n, t.up⟩ wk x ∧ ∀ B, B ≤ q → Below B w w' := by
  have HR : Hid (GwAt ((w.setCell ⟨q, 0, none⟩ (.int .i64 n)).setCell ⟨q, 4, none⟩ (.bool true)) q g ⟨n, t.up⟩ wk x) := h.rooted n hn
  obtain ⟨c0, c1, c2, c3, c4, cl, cf⟩ := h.cells
  have e1 : (t.root != -1) = false := by simpa using hr
  rw [e1] at c4
  have f0 := cf 0
  have f4 := cf 4
  have b1 := setCell_block h.box 0 (.int .i64 n)
  have d4 : (w.setCell ⟨q, 0, none⟩ (.int .i64 n)).cell? ⟨q, 4, none⟩ = some (.bool false) := by simp [World.cell?, b1, e1]
  have g4 : (w.setCell ⟨q, 0, none⟩ (.int .i64 n)).frozen? ⟨q, 4, none⟩ = false := by simp [World.frozen?, b1]
  clear h c1 c2 c3 cf e1 hr b1
  go_enter Tryz.func98, Tryz.ntmps98
  go_wp2
  go_ret
  exact ⟨rfl, HR.out, fun B hB => ((Below.refl B w).setCell (p := ⟨q, 0, none⟩) hB _).setCell (p := ⟨q, 4, none⟩) hB _⟩

set_option maxRecDepth 100000 in
set_option maxHeartbeats 4000000 in
theorem walk_any (w0 w : World) (q g : Nat) (T : TypeId) (v : Value) (K : Nat) (x : Int) (nx : Int → Option Int) (t : Tr) (n : Int) (hk : Wk w0 T v K x nx) (h : GwAt w q g t (.iface T v) x) (hB : Below w0.heap.size w0 w) (hq : w0.heap.size ≤ q) (hg : w0.heap.size ≤ g) (hnx : nx (-1) = none) :
    Calls Tryz.prog 48 #[.pointer (some ⟨q, 0, none⟩), .int .i64 n] w fun e w' => e = .returned (codeV (walkT nx 66 t n).1) ∧ GwAt w' q g (walkT nx 66 t n).2 (.iface T v) x ∧ Below w0.heap.size w0 w' := by
  have HK : Hid (Wk w0 T v K x nx ∧ w0.heap.size ≤ q ∧ w0.heap.size ≤ g ∧ nx (-1) = none) := ⟨hk, hq, hg, hnx⟩
  have hm := hk.mth
  have he := hk.ent
  have H : Hid (GwAt w q g t (.iface T v) x ∧ Below w0.heap.size w0 w) := ⟨h, hB⟩
  clear hk h hB hq hg hnx
  go_enter Tryz.func48, Tryz.ntmps48
  go_wp2
  go_loopg [1, 7] 66 (fun kx nv s wr => ∃ (j : Nat) (m : Int) (t' : Tr), s = .int .i64 j ∧ nv = .int .i64 m ∧ j ≤ 66 ∧ kx = 66 - j ∧ Hid (GwAt wr q g t' (.iface T v) x ∧ Below w0.heap.size w0 wr ∧ walkT nx 66 t n = walkT nx (66 - j) t' m))
  case atStart => exact ⟨0, n, t, rfl, rfl, Nat.zero_le _, rfl, ⟨H.out.1, H.out.2, rfl⟩⟩
  case round =>
    obtain ⟨j, m, t', rfl, rfl, hj, rfl, HB⟩ := hrel
    by_cases hlt : j < 66
    · have hltI : (j : Int) < 66 := by omega
      have HS : Hid (walkT nx 66 t n = if t'.has m then (0, t') else match nx m with
          | none => (6, t')
          | some v => if v = m then (if t'.root = -1 then (0, ⟨m, t'.up⟩) else (5, t')) else walkT nx (66 - (j + 1)) ⟨t'.root, t'.up ++ [(m, v)]⟩ v) := by
        have := HB.out.2.2
        rw [show 66 - j = (66 - (j + 1)) + 1 by omega] at this
        exact this
      cases hh : t'.has m with
      | true =>
        have HE : Hid (walkT nx 66 t n = (0, t') ∧ t'.has m = true) := ⟨by have := HS.out; rw [hh] at this; exact this, hh⟩
        clear hh HS hm
        go_wp2_with (go_at_call 97; refine (has_any q g t' _ x m _ HB.out.1).mono ?_; rintro e w2 ⟨rfl, b2⟩; rw [HE.out.2])
        go_ret
        rw [HE.out.1]
        exact ⟨by simp [codeV], HB.out.1.below b2, HB.out.2.1.trans (b2.mono HB.out.2.1.size)⟩
      | false =>
        have HE : Hid (t'.has m = false) := hh
        have HS2 := HS.out
        rw [hh] at HS2
        simp only [Bool.false_eq_true, if_false] at HS2
        have HS3 : Hid _ := HS2
        clear hh HS HS2
        go_wp2_with fail
        refine (has_any q g t' _ x m _ HB.out.1).mono ?_
        rintro e w2 ⟨rfl, b2⟩
        rw [HE.out]
        have H2 : Hid (GwAt w2 q g t' (.iface T v) x ∧ Below w0.heap.size w0 w2) := ⟨HB.out.1.below b2, HB.out.2.1.trans (b2.mono HB.out.2.1.size)⟩
        clear b2
        obtain ⟨c0, c1, c2, c3, c4, cl, cf⟩ := H2.out.1.cells
        clear c0 c1 c4 cf
        cases hv : nx m with
        | none =>
          have HV : Hid (nx m = none ∧ walkT nx 66 t n = (6, t')) := ⟨hv, by have := HS3.out; rw [hv] at this; exact this⟩
          have HCL : Hid (∀ W, Below w2.heap.size w2 W → Calls Tryz.prog K #[v, .int .i64 m, .int .u64 x] W fun e w' => e = .returned (.tuple #[.int .i64 (-1), .iface 116 (.int .i64 6)]) ∧ Below w2.heap.size w2 w') := fun W hW => (HK.out.1.call W m (H2.out.2.trans (hW.mono H2.out.2.size))).mono (fun e w' z => ⟨by rw [z.1, HV.out.1]; rfl, hW.trans (z.2.mono hW.size)⟩)
          clear hv HS3
          go_upto_region 5 with fail
          go_cut [5, 6] (fun a b wx => a = .int .i64 (-1) ∧ b = .iface 116 (.int .i64 6) ∧ Hid (Below w2.heap.size w2 wx))
          case first =>
            go_region_held3 (fun W' => W'.cell? ⟨q, 2, none⟩ = some (.iface T v) ∧ W'.cell? ⟨q, 3, none⟩ = some (.int .u64 x))
              (first
                | go_keep
                | assumption)
              (first
                | (refine Calls.mono (HCL.out _ ?_) ?_; exact ⟨rfl, rfl, rfl, Nat.le_refl _, fun _ _ => rfl⟩; rintro e wO ⟨rfl, bO⟩
                   have BO : Hid (Below w2.heap.size w2 wO) := bO
                   have z2 := cell_grown c2 bO
                   have z3 := cell_grown c3 bO
                   have zl := cell_block z2
                   clear bO))
            all_goals
              go_wp2
              go_meet
              exact ⟨rfl, rfl, BO⟩
          case rest =>
            rename World => W3
            obtain ⟨rfl, rfl, HC⟩ := hcut
            go_wp2
            go_ret
            rw [HV.out.2]
            exact ⟨by simp [codeV], H2.out.1.below HC.out, H2.out.2.trans (HC.out.mono H2.out.2.size)⟩
        | some y =>
          have HV : Hid (nx m = some y ∧ walkT nx 66 t n = if y = m then (if t'.root = -1 then (0, ⟨m, t'.up⟩) else (5, t')) else walkT nx (66 - (j + 1)) ⟨t'.root, t'.up ++ [(m, y)]⟩ y) := ⟨hv, by have := HS3.out; rw [hv] at this; exact this⟩
          have HCL : Hid (∀ W, Below w2.heap.size w2 W → Calls Tryz.prog K #[v, .int .i64 m, .int .u64 x] W fun e w' => e = .returned (.tuple #[.int .i64 y, .nilIface]) ∧ Below w2.heap.size w2 w') := fun W hW => (HK.out.1.call W m (H2.out.2.trans (hW.mono H2.out.2.size))).mono (fun e w' z => ⟨by rw [z.1, HV.out.1]; rfl, hW.trans (z.2.mono hW.size)⟩)
          clear hv HS3
          go_upto_region 5 with fail
          go_cut [5, 6] (fun a b wx => a = .int .i64 y ∧ b = .nilIface ∧ Hid (Below w2.heap.size w2 wx))
          case first =>
            go_region_held3 (fun W' => W'.cell? ⟨q, 2, none⟩ = some (.iface T v) ∧ W'.cell? ⟨q, 3, none⟩ = some (.int .u64 x))
              (first
                | go_keep
                | assumption)
              (first
                | (refine Calls.mono (HCL.out _ ?_) ?_; exact ⟨rfl, rfl, rfl, Nat.le_refl _, fun _ _ => rfl⟩; rintro e wO ⟨rfl, bO⟩
                   have BO : Hid (Below w2.heap.size w2 wO) := bO
                   have z2 := cell_grown c2 bO
                   have z3 := cell_grown c3 bO
                   have zl := cell_block z2
                   clear bO))
            all_goals
              go_wp2
              go_meet
              exact ⟨rfl, rfl, BO⟩
          case rest =>
            rename World => W3
            obtain ⟨rfl, rfl, HC⟩ := hcut
            have H3 : Hid (GwAt W3 q g t' (.iface T v) x ∧ Below w0.heap.size w0 W3) := ⟨H2.out.1.below HC.out, H2.out.2.trans (HC.out.mono H2.out.2.size)⟩
            clear HC c2 c3 cl hm
            by_cases hy : y = m
            · have e1 : (y == m) = true := by simpa using hy
              have hmn : m ≠ -1 := fun e => by have := HV.out.1; rw [e, HK.out.2.2.2] at this; cases this
              by_cases hr : t'.root = -1
              · have HF : Hid (walkT nx 66 t n = (0, ⟨m, t'.up⟩)) := by have := HV.out.2; rw [if_pos hy, if_pos hr] at this; exact this
                have HRt : Hid (t'.root = -1 ∧ m ≠ -1) := ⟨hr, hmn⟩
                clear hr hy hmn
                go_wp2_with (go_at_call 98; refine (root_yes q g t' _ x m _ H3.out.1 HRt.out.1 HRt.out.2).mono ?_; rintro e w5 ⟨rfl, h5, b5⟩)
                go_ret
                rw [HF.out]
                exact ⟨by simp [codeV], h5, H3.out.2.trans (b5 _ HK.out.2.1)⟩
              · have HF : Hid (walkT nx 66 t n = (5, t')) := by have := HV.out.2; rw [if_pos hy, if_neg hr] at this; exact this
                have HRt : Hid (t'.root ≠ -1) := hr
                clear hr hy hmn
                go_wp2_with (go_at_call 98; refine (root_no q g t' _ x m _ H3.out.1 HRt.out).mono ?_; rintro e w5 ⟨rfl, hw5⟩; subst w5)
                go_ret
                rw [HF.out]
                exact ⟨by simp [codeV], H3.out.1, H3.out.2⟩
            · have e1 : (y == m) = false := by simpa using hy
              have HF : Hid (walkT nx 66 t n = walkT nx (66 - (j + 1)) ⟨t'.root, t'.up ++ [(m, y)]⟩ y) := by have := HV.out.2; rw [if_neg hy] at this; exact this
              clear hy
              obtain ⟨o, hput, hup⟩ := H3.out.1.up.put (P := Tryz.prog) key_int Tryz.underlying41 (k := m) (by rw [look_upV, (Tr.has_no HE.out).1]; rfl) (.int .i64 y)
              rw [upV_snoc] at hup
              obtain ⟨d0, d1, d2, d3, d4, dl, df⟩ := H3.out.1.cells
              have H4 : Hid (GwAt (setBlock W3 g o) q g ⟨t'.root, t'.up ++ [(m, y)]⟩ (.iface T v) x ∧ Below w0.heap.size w0 (setBlock W3 g o)) := by
                refine ⟨⟨by rw [setB_other H3.out.1.ne]; exact H3.out.1.box, hup⟩, ?_⟩
                have b := H3.out.2
                exact ⟨b.os, b.tape, b.output, by rw [setB_size]; exact b.size, fun k hk => (setB_other (by have := HK.out.2.2.1; omega) o).trans (b.block k hk)⟩
              obtain ⟨W4, hW4⟩ : ∃ W4, W4 = setBlock W3 g o := ⟨_, rfl⟩
              rw [← hW4] at hput H4
              simp only [kvI] at hput
              clear hW4 hup d0 d2 d3 d4 df
              go_wp2
              go_roundg (66 - (j + 1))
              case measure => omega
              case rel => exact ⟨j + 1, y, ⟨t'.root, t'.up ++ [(m, y)]⟩, by go_num, rfl, by omega, rfl, ⟨H4.out.1, H4.out.2, HF.out⟩⟩
    · obtain rfl : j = 66 := by omega
      have HE : Hid (walkT nx 66 t n = (0, t')) := HB.out.2.2
      clear hm
      go_wp2
      go_ret
      rw [HE.out]
      exact ⟨by simp [codeV], HB.out.1, HB.out.2.1⟩
end Go.Proofs.YtmajlldfiiokoaaGreatDoor

/- slices.Sort, slices.Compact of a row of ints of one's own. -/
namespace Go.Proofs.YtmajlldfiiokoaaGreatDoor
open Go.ChangeShapes Go.WideShapes Go.ChangeAt Go.RowKit Go.Deep
set_option linter.unusedVariables false

theorem tr_compact_len {zs : List Int} : (Lib.compact zs).length ≤ zs.length := by
  unfold Lib.compact Lib.compactUpTo
  rw [List.length_map]
  exact Nat.le_trans (List.length_filter_le _ _) (by simp)
theorem tr_compact_mem {zs : List Int} : ∀ x ∈ Lib.compact zs, x ∈ zs := fun x hx => by
  unfold Lib.compact Lib.compactUpTo at hx
  obtain ⟨j, hj, rfl⟩ := List.mem_map.1 hx
  have hl : j < zs.length := by have := (List.mem_filter.1 hj).1; simpa using this
  have e : zs.toArray[j]! = zs[j] := by simp [hl]
  rw [e]
  exact List.getElem_mem _
theorem tr_below_cells {B b : Nat} (hb : B ≤ b) : ∀ (vs : List Value) (o : Nat) (w : World), Below B w (w.setCells b o vs)
  | [], _, w => Below.refl _ _
  | v :: r, o, w => by rw [World.setCells]; exact ((Below.refl B w).setCell (p := ⟨b, o, none⟩) hb v).trans (tr_below_cells hb r (o + 1) _)
theorem tr_size_cells {b : Nat} : ∀ (vs : List Value) (o : Nat) (w : World), (w.setCells b o vs).heap.size = w.heap.size
  | [], _, w => rfl
  | v :: r, o, w => by rw [World.setCells, tr_size_cells r (o + 1)]; simp [World.setCell]
theorem tr_compact_snoc (l : List Int) (x : Int) : Lib.compact (l ++ [x]) = if l.getLast? = some x then Lib.compact l else Lib.compact l ++ [x] := by
  have hk : ∀ j, j < l.length → Lib.keeps (l ++ [x]).toArray j = Lib.keeps l.toArray j := fun j hj => by
    have e1 : (l ++ [x]).toArray[j]! = l.toArray[j]! := by simp [hj, List.getElem?_append_left hj]
    have e2 : (l ++ [x]).toArray[j - 1]! = l.toArray[j - 1]! := by
      have : j - 1 < l.length := by omega
      simp [this, List.getElem?_append_left this]
    unfold Lib.keeps
    rw [e1, e2]
  have hmap : ∀ j ∈ (List.range l.length).filter (Lib.keeps l.toArray), (l ++ [x]).toArray[j]! = l.toArray[j]! := fun j hj => by
    have hj' : j < l.length := by have := (List.mem_filter.1 hj).1; simpa using this
    simp [hj', List.getElem?_append_left hj']
  have hf : (List.range l.length).filter (Lib.keeps (l ++ [x]).toArray) = (List.range l.length).filter (Lib.keeps l.toArray) := List.filter_congr (fun j hj => hk j (by simpa using hj))
  have hx : (l ++ [x]).toArray[l.length]! = x := by simp
  unfold Lib.compact Lib.compactUpTo
  rw [List.length_append, List.length_singleton, List.range_succ, List.filter_append, hf, List.map_append, List.map_congr_left hmap]
  by_cases h0 : l.length = 0
  · have : l = [] := List.eq_nil_of_length_eq_zero h0
    subst this
    simp [Lib.keeps]
  · have hp : 0 < l.length := by omega
    have hlast : (l ++ [x]).toArray[l.length - 1]! = l.toArray[l.length - 1]! := by
      have : l.length - 1 < l.length := by omega
      simp [this, List.getElem?_append_left this]
    have hgl : l.getLast? = some l.toArray[l.length - 1]! := by
      have : l.length - 1 < l.length := by omega
      rw [List.getLast?_eq_getElem?]
      simp [this]
    rw [hgl]
    by_cases q : l.toArray[l.length - 1]! = x
    · have hkk : Lib.keeps (l ++ [x]).toArray l.length = false := Lib.keeps_neg hp (by rw [hx, hlast, q])
      rw [if_pos (by rw [q])]
      simp [hkk]
    · have hkk : Lib.keeps (l ++ [x]).toArray l.length = true := Lib.keeps_pos (by rw [hx, hlast]; exact Ne.symm q)
      rw [if_neg (fun e => q (Option.some.inj e))]
      simp [hkk]
/-- Of a list that doesn't fall: rising, each once. -/
theorem compact_rise : ∀ (n : Nat) (l : List Int), l.length = n → l.Pairwise (· ≤ ·) → (Lib.compact l).Pairwise (· < ·) ∧ (∀ x, x ∈ Lib.compact l ↔ x ∈ l) := by
  intro n
  induction n with
  | zero => intro l hl _; have : l = [] := List.eq_nil_of_length_eq_zero hl; subst this; exact ⟨List.Pairwise.nil, fun x => by simp [Lib.compact, Lib.compactUpTo]⟩
  | succ n ih =>
    intro l hl hp
    rcases List.eq_nil_or_concat l with h0 | ⟨m, x, h0⟩
    · subst h0; simp at hl
    · have h1 : l = m ++ [x] := by rw [h0]; simp
      subst h1
      have hm : m.length = n := by simpa using hl
      obtain ⟨p1, _, p3⟩ := List.pairwise_append.1 hp
      obtain ⟨i1, i2⟩ := ih m hm p1
      rw [tr_compact_snoc]
      by_cases q : m.getLast? = some x
      · rw [if_pos q]
        have hxm : x ∈ m := List.mem_of_getLast? q
        refine ⟨i1, fun y => ?_⟩
        rw [i2, List.mem_append, List.mem_singleton]
        exact ⟨.inl, fun z => z.elim id (fun e => by rw [e]; exact hxm)⟩
      · rw [if_neg q]
        refine ⟨List.pairwise_append.2 ⟨i1, by simp, fun a ha b hb => ?_⟩, fun y => by simp only [List.mem_append, List.mem_singleton, i2]⟩
        simp at hb
        subst hb
        have ha' := (i2 a).1 ha
        have hle := p3 a ha' b (by simp)
        rcases Int.lt_or_le a b with h | h
        · exact h
        · exfalso
          have hab : a = b := by omega
          subst hab
          apply q
          -- a is the last one: all behind it lie between a and a
          obtain ⟨s, t, rfl⟩ := List.append_of_mem ha'
          rcases List.eq_nil_or_concat t with ht | ⟨u, y, ht⟩
          · subst ht; simp
          · have ht' : t = u ++ [y] := by rw [ht]; simp
            subst ht'
            have h1 := (List.pairwise_append.1 p1).2.1
            have h2 := (List.pairwise_cons.1 h1).1 y (by simp)
            have h3 := p3 y (by simp) a (by simp)
            have : y = a := by omega
            subst this
            rw [show s ++ y :: (u ++ [y]) = (s ++ y :: u) ++ [y] by simp, List.getLast?_concat]
theorem le_sorted (l : List Int) : (l.mergeSort fun x y => decide (x ≤ y)).Pairwise (· ≤ ·) := by
  have := List.pairwise_mergeSort (le := fun x y : Int => decide (x ≤ y)) (fun a b c h1 h2 => by simp at *; omega) (fun a b => by simp; omega) l
  exact this.imp (fun h => by simpa using h)

/-- slices.Sort of a row of one's own. -/
theorem sort_own (B : Nat) (wr : World) (a : Option Addr) (n c : Nat) (l : List Int) (h : wr.ownsRow B 3 1 (.slice a n c) n (l.map cellI)) (hn : n ≤ 1000000) :
    Calls Tryz.prog 55 #[.slice a n c] wr fun e w' => e = .returned (.tuple #[]) ∧ ∃ l' : List Int, l'.Perm l ∧ l'.Pairwise (· ≤ ·) ∧ w'.ownsRow B 3 1 (.slice a n c) n (l'.map cellI) ∧ wr.grownBy w' (Value.ownBlock (.slice a n c)) := by
  have hl : l.length = n := by have := h.1; simpa using this
  rcases h.2 with ⟨hv, h0⟩ | ⟨g, cap, cur, hv, hB, hg, hnc, hcm, hcs, ht⟩
  · have hL : l = [] := List.eq_nil_of_length_eq_zero (by omega)
    subst hL
    subst h0
    refine (Tryz.slices_Sort_int_none a c wr).mono ?_
    rintro e w' ⟨rfl, hw'⟩
    subst w'
    exact ⟨rfl, [], List.Perm.refl _, List.Pairwise.nil, h, ⟨rfl, rfl, rfl, Nat.le_refl _, fun _ _ _ => rfl⟩⟩
  · simp only [Value.slice.injEq] at hv
    obtain ⟨rfl, _, rfl⟩ := hv
    subst hl
    have ht' : cur.toList.take l.length = l.map (Value.int .i64) := by rw [Nat.mul_one] at ht; exact ht
    have hh := holds_of_blockI (ss := l) hg ht'
    refine (Tryz.slices_Sort_int g 0 c l wr hh (lt_of_block hg) (by omega)).mono ?_
    rintro e w' ⟨rfl, q, os, rfl⟩
    have hpm : (l.mergeSort fun x y => decide (x ≤ y)).Perm l := List.mergeSort_perm l _
    exact ⟨rfl, l.mergeSort fun x y => decide (x ≤ y), hpm, le_sorted l, ownsRow_sortedI hpm.length_eq hB hg hnc hcm hcs, grownBy_sortedI _⟩
/-- slices.Compact of a row of one's own. -/
theorem compact_own (B : Nat) (wr : World) (a : Option Addr) (n c : Nat) (l : List Int) (h : wr.ownsRow B 3 1 (.slice a n c) n (l.map cellI)) (hok : ∀ x ∈ l, i64 x) (hn : n ≤ 1000000) :
    Calls Tryz.prog 56 #[.slice a n c] wr fun e w' => ∃ m, e = .returned (.slice a m c) ∧ InIn w' a m (Lib.compact l) ∧ (a = none → m = 0) ∧ m ≤ c ∧ c ≤ 9223372036854775807 ∧ Below B wr w' := by
  have hl : l.length = n := by have := h.1; simpa using this
  have hcp := own_caps h
  rcases h.2 with ⟨hv, h0⟩ | ⟨g, cap, cur, hv, hB, hg, hnc, _, hcs, _⟩
  · have hL : l = [] := List.eq_nil_of_length_eq_zero (by omega)
    subst hL
    subst h0
    refine (Tryz.slices_Compact_int_empty a c wr).mono ?_
    rintro e w' ⟨rfl, hw'⟩
    subst w'
    exact ⟨0, rfl, ⟨rfl, by omega, .inl rfl⟩, fun _ => rfl, by omega, hcp.2, Below.refl _ _⟩
  · have hcell := h.cells (g := g) (by rw [hv]; rfl)
    simp only [Value.slice.injEq] at hv
    obtain ⟨rfl, _, rfl⟩ := hv
    have hgl := lt_of_block hg
    have hc : ∀ i, i < l.length → wr.cell? ⟨g, 0 + i, none⟩ = some (.int .i64 (l.getD i 0)) := fun i hi => by
      have e := hcell i (cellI (l.getD i 0)) (by simp [hi])
      rw [Addr.add_lit] at e
      exact e
    have hf : ∀ j, j < n → wr.frozen? ⟨g, 0 + j, none⟩ = false := fun j _ => by simp [World.frozen?, hg]
    refine (Tryz.slices_Compact_int_cells g 0 n c l wr (by omega) (by omega) hnc hc hf).mono ?_
    rw [List.take_of_length_le (by omega)]
    rintro e w' ⟨rfl, q, rfl⟩
    have hcl := tr_compact_len (zs := l)
    refine ⟨(Lib.compact l).length, rfl, ⟨rfl, by omega, ?_⟩, (fun e => by cases e), by omega, hcp.2, ?_⟩
    · refine .inr ⟨g, 0, rfl, ?_, fun j hj => ⟨?_, fun i hi => ?_⟩⟩
      · rw [tr_size_cells]; exact hgl
      · rw [List.getD_eq_getElem?_getD, List.getElem?_eq_getElem hj]
        exact hok _ (tr_compact_mem _ (List.getElem_mem _))
      · obtain rfl : i = 0 := by omega
        have hin := World.cell?_setCells_in g ((Lib.compact l ++ List.replicate (n - (Lib.compact l).length) 0).map (Value.int .i64)) 0 (wr.drewN q)
          (fun k hk => by
            have hk' : k < l.length := by simp at hk; omega
            have e := hc k hk'
            have e' : (wr.drewN q).cell? ⟨g, 0 + k, none⟩ = wr.cell? ⟨g, 0 + k, none⟩ := rfl
            rw [e', e]; rfl) j (by simp; omega)
        have ea : (⟨g, 0 + j * 1 + 0, none⟩ : Addr) = ⟨g, 0 + j, none⟩ := by simp
        rw [ea, hin]
        simp [encI, hj]
    · have hb : Below B wr (wr.drewN q) := ⟨rfl, rfl, rfl, Nat.le_refl _, fun _ _ => rfl⟩
      exact hb.trans (tr_below_cells hB _ _ _)
end Go.Proofs.YtmajlldfiiokoaaGreatDoor

/- tree.Tree.Nodes, Children: going over who tells whom, a row of one's own beside it. -/
namespace Go.Proofs.YtmajlldfiiokoaaGreatDoor
open Go.ChangeShapes Go.WideShapes Go.ChangeAt Go.RowKit Go.Deep
open Go.ChangeMaps (setBlock)
set_option linter.unusedVariables false

/-- A slice of ints that is an answer. -/
structure SlI (w : World) (v : Value) (l : List Int) : Prop where
  ex : ∃ a c, v = .slice a l.length c ∧ InIn w a l.length l ∧ (a = none → l.length = 0) ∧ l.length ≤ c ∧ c ≤ 9223372036854775807
theorem SlI.below {w w' : World} {v : Value} {l : List Int} (h : SlI w v l) (hb : Below w.heap.size w w') : SlI w' v l := by
  obtain ⟨a, c, h1, h2, h3⟩ := h.ex
  exact ⟨a, c, h1, h2.below (Nat.le_refl _) hb, h3⟩
/-- On the way: D came already; L lies in the row. -/
structure NdSt (W wr : World) (B g r : Nat) (m : List (Int × Int)) (P : Int → Bool) (l0 D L : List Int) (v : Value) : Prop where
  it : ItK kvI wr g r (upV m) D
  bel : Below W.heap.size W wr
  lo : W.heap.size ≤ r ∧ W.heap.size ≤ B
  row : wr.ownsRow B 3 1 v L.length (L.map cellI)
  off : ∀ x, v.ownBlock = some x → x ≠ r
  dn : D.Nodup
  dm : ∀ k ∈ D, k ∈ m.map (·.1)
  ls : L = l0 ++ D.filter P
theorem NdSt.le {W wr : World} {B g r : Nat} {m : List (Int × Int)} {P : Int → Bool} {l0 D L : List Int} {v : Value} (h : NdSt W wr B g r m P l0 D L v) : L.length ≤ l0.length + m.length := by
  have h2 := nodup_le D (m.map (·.1)) h.dn h.dm
  have h3 := List.length_filter_le P D
  rw [List.length_map] at h2
  rw [h.ls, List.length_append]
  omega
theorem NdSt.lt {W wr : World} {B g r : Nat} {m : List (Int × Int)} {P : Int → Bool} {l0 D L : List Int} {v : Value} (h : NdSt W wr B g r m P l0 D L v) {k : Int} (hm : k ∈ m.map (·.1)) (hk : k ∉ D) : D.length < m.length := by
  have h2 := nodup_le (D ++ [k]) (m.map (·.1)) (List.nodup_append.2 ⟨h.dn, by simp, fun a ha b hb e => by simp at hb; subst hb; subst e; exact hk ha⟩) (fun x hx => by
    rcases List.mem_append.1 hx with q | q
    · exact h.dm x q
    · simp at q; subst q; exact hm)
  simp at h2
  omega
theorem setB_below {w W : World} {B g : Nat} (h : Below B w W) (hg : B ≤ g) (o : Obj) : Below B w (setBlock W g o) :=
  ⟨h.os, h.tape, h.output, by rw [setB_size]; exact h.size, fun b hb => (setB_other (by omega) o).trans (h.block b hb)⟩
theorem row_at {w w' : World} {B : Nat} {e : TypeId} {k n : Nat} {vs : Value} {xs : List Value} (h : w.ownsRow B e k vs n xs) (hb : ∀ x, vs.ownBlock = some x → w'.heap[x]? = w.heap[x]?) : w'.ownsRow B e k vs n xs := by
  refine ⟨h.1, ?_⟩
  rcases h.2 with h1 | ⟨g, cap, cur, hv, hbg, hg, hr⟩
  · exact .inl h1
  · exact .inr ⟨g, cap, cur, hv, hbg, (hb g (by rw [hv]; rfl)).trans hg, hr⟩
/-- One more comes. -/
structure NdMid (W wr w5 : World) (B g r : Nat) (m : List (Int × Int)) (P : Int → Bool) (l0 D L : List Int) (v : Value) (k : Int) : Prop where
  it : ItK kvI w5 g r (upV m) (D ++ [k])
  bel : Below W.heap.size W w5
  row : w5.ownsRow B 3 1 v L.length (L.map cellI)
  big : w5.heap.size = wr.heap.size
  mem : k ∈ m.map (·.1)
  out : k ∉ D
theorem NdSt.next {W wr : World} {B g r : Nat} {m : List (Int × Int)} {P : Int → Bool} {l0 D L : List Int} {v : Value} (h : NdSt W wr B g r m P l0 D L v) :
    ((∀ k ∈ m.map (·.1), k ∈ D) ∧ ∀ ty, (Instr.next (.pointer (some ⟨r, 0, none⟩)) false ty).run Tryz.prog wr = .ok (.tuple #[.bool false]) wr) ∨
    ∃ k x w5, lookI m k = some x ∧ (∀ ty, (Instr.next (.pointer (some ⟨r, 0, none⟩)) false ty).run Tryz.prog wr = .ok (.tuple #[.bool true, .int .i64 k, .int .i64 x]) w5) ∧
      (Instr.entry (.pointer (some ⟨r, 0, none⟩))).run Tryz.prog w5 = .ok (.tuple #[.int .i64 k, .int .i64 x]) w5 ∧ NdMid W wr w5 B g r m P l0 D L v k := by
  rcases h.it.next (P := Tryz.prog) with ⟨hall, hrun⟩ | ⟨k, x, w5, hkm, hkD, hrun, hit5, hent, w5', o5, hw5', hw5⟩
  · refine .inl ⟨fun k hk => ?_, hrun⟩
    rw [← upV_keys] at hk
    obtain ⟨p, hp, rfl⟩ := List.mem_map.1 hk
    exact hall p hp
  · obtain ⟨y, rfl, hy⟩ := upV_mem hkm
    have hnd : (m.map (·.1)).Nodup := by rw [← upV_keys]; exact h.it.nodup
    have hsz : w5.heap.size = wr.heap.size := by rw [hw5, setB_size]; rcases hw5' with rfl | rfl <;> rfl
    refine .inr ⟨k, y, w5, lookI_mem hnd hy, hrun, hent, hit5, ?_, ?_, hsz, List.mem_map.2 ⟨_, hy, rfl⟩, hkD⟩
    · rw [hw5]
      refine setB_below ?_ h.lo.1 _
      rcases hw5' with rfl | rfl
      · exact h.bel
      · exact h.bel.trans (show Below W.heap.size wr wr.drew from ⟨rfl, rfl, rfl, Nat.le_refl _, fun _ _ => rfl⟩)
    · refine row_at h.row (fun z hz => ?_)
      rw [hw5, setB_other (h.off z hz)]
      rcases hw5' with rfl | rfl <;> rfl
theorem NdSt.skip {W wr w5 : World} {B g r : Nat} {m : List (Int × Int)} {P : Int → Bool} {l0 D L : List Int} {v : Value} (h : NdSt W wr B g r m P l0 D L v) {k : Int} (q : NdMid W wr w5 B g r m P l0 D L v k) (hP : P k = false) : NdSt W w5 B g r m P l0 (D ++ [k]) L v := by
  refine ⟨q.it, q.bel, h.lo, q.row, h.off, List.nodup_append.2 ⟨h.dn, by simp, fun a ha b hb e => by simp at hb; subst hb; subst e; exact q.out ha⟩, fun y hy => ?_, ?_⟩
  · rcases List.mem_append.1 hy with z | z
    · exact h.dm y z
    · simp at z; subst z; exact q.mem
  · rw [List.filter_append, h.ls]; simp [hP]
theorem NdSt.take {W wr w5 w6 : World} {B g r : Nat} {m : List (Int × Int)} {P : Int → Bool} {l0 D L : List Int} {v v' : Value} (h : NdSt W wr B g r m P l0 D L v) {k : Int} (q : NdMid W wr w5 B g r m P l0 D L v k) (hP : P k = true)
    (o : Obj) (ha : Appended B 3 (w5.alloc o) w6 v v' (L.length + 1) (L.map cellI ++ [cellI k])) : NdSt W w6 B g r m P l0 (D ++ [k]) (L ++ [k]) v' := by
  have hg := ha.grown
  have hgb : ∀ b, b < w5.heap.size → v.ownBlock ≠ some b → w6.heap[b]? = w5.heap[b]? := fun b hb hv => (hg.block b (by simp; omega) (fun e => hv e.symm)).trans (Below.heap_alloc _ _ _ hb)
  have hgl := q.it.mp.lt
  have hrl := q.it.lt
  have hvg : v.ownBlock ≠ some g := fun e => by
    obtain ⟨_, es, c, hb, _⟩ := q.it.mp
    rcases q.row.2 with ⟨hv, _⟩ | ⟨g2, _, _, hv, _, hg2, _⟩
    · rw [hv] at e; cases e
    · rw [hv] at e
      have : g2 = g := by simpa [Value.ownBlock] using e
      subst this
      rw [hb] at hg2
      cases hg2
  refine ⟨q.it.of_blocks (hgb g hgl hvg) (hgb r hrl (fun e => h.off r e rfl)), ?_, h.lo, by rw [List.map_append, List.length_append]; exact ha.row, fun x hx => ?_, List.nodup_append.2 ⟨h.dn, by simp, fun a ha' b hb e => by simp at hb; subst hb; subst e; exact q.out ha'⟩, fun y hy => ?_, ?_⟩
  · have b1 : Below W.heap.size W (w5.alloc o) := q.bel.alloc q.bel.size o
    refine b1.grown hg b1.size (fun k hk => ?_)
    have := (World.ownsRow.lt h.row k hk).1
    have := h.lo.2
    omega
  · rcases ha.new x hx with e | e
    · exact h.off x e
    · simp at e; omega
  · rcases List.mem_append.1 hy with z | z
    · exact h.dm y z
    · simp at z; subst z; exact q.mem
  · rw [List.filter_append, h.ls]; simp [hP]
theorem src_oneT (w : World) (y : Int) : Src Tryz.prog 1 24 (.slice (some ⟨w.heap.size, 0, none⟩) 1 1) 1 [cellI y] (w.alloc (.cells #[.int .i64 y] 3)) :=
  Src.ofSlice _ Tryz.underlying24 _ _ _ _ rfl (World.news_of_block (cs := #[.int .i64 y]) (t := 3) (fr := (0, 0)) (heap_alloc_new w _)) (by simp [cellI, Value.oneCell'])

set_option maxRecDepth 100000 in
set_option maxHeartbeats 2000000 in
theorem children_t (t : Tr) (g : Nat) (n : Int) (w : World) (h : UpAt w g t.up) (hl : t.up.length ≤ 100000) (hi : ∀ k ∈ t.up.map (·.1), i64 k) :
    Calls Tryz.prog 21 #[.agg #[.int .i64 t.root, .map (some g)], .int .i64 n] w fun e w' => ∃ v l, e = .returned v ∧ SlI w' v l ∧ l.Pairwise (· < ·) ∧ (∀ x, x ∈ l ↔ lookI t.up x = some n) ∧ Below w.heap.size w w' := by
  obtain ⟨i0, hif, hz0, hz1, hz2⟩ := info_of Tryz.infoInt
  obtain ⟨root, up⟩ := t
  simp only at h hl hi ⊢
  have hnd : (up.map (·.1)).Nodup := by rw [← upV_keys]; exact h.1
  obtain ⟨q, hq⟩ : ∃ q, q = w.heap.size := ⟨_, rfl⟩
  obtain ⟨W, hW⟩ : ∃ W, W = w.alloc (.cells #[.int .i64 root, .map (some g)] 43) := ⟨_, rfl⟩
  have hbW : Below w.heap.size w W := by rw [hW]; exact below_one _ _
  have c1 : W.cell? ⟨q, 1, none⟩ = some (.map (some g)) := by rw [hW, hq]; simp
  obtain ⟨o, hrun, hit⟩ := (h.below hbW).start (P := Tryz.prog) Tryz.underlying41
  obtain ⟨r, hr⟩ : ∃ r, r = W.heap.size := ⟨_, rfl⟩
  obtain ⟨W4, hW4⟩ : ∃ W4, W4 = W.alloc o := ⟨_, rfl⟩
  rw [← hW4, ← hr] at hrun hit
  have HW : Hid (Below w.heap.size w W ∧ r = W.heap.size) := ⟨hbW, hr⟩
  have HI : Hid ((∀ k ∈ up.map (·.1), i64 k) ∧ (up.map (·.1)).Nodup ∧ up.length ≤ 100000) := ⟨hi, hnd, hl⟩
  have HK : Hid (∃ P : Int → Bool, P = fun k => decide (lookI up k = some n)) := ⟨_, rfl⟩
  obtain ⟨P, hP⟩ := HK.out
  have HP : Hid (∀ k, P k = decide (lookI up k = some n)) := fun k => by rw [hP]
  have H4 : Hid (NdSt W W4 (r + 1) g r up P [] [] [] (.slice none 0 0)) :=
    ⟨hit, by rw [hW4]; exact below_one _ _, by omega, World.ownsRow_nil _ _ _ _, fun x hx => (by cases hx), List.nodup_nil, fun k hk => (by cases hk), rfl⟩
  clear h hl hi hnd hbW hit hP HK hr
  go_enter Tryz.func21, Tryz.ntmps21
  go_upto_region 1 with fail
  rw [← hW]
  try rw [← hq]
  clear hW hq hW4
  go_wp2
  clear hrun c1
  go_loopg [5] up.length (fun kx v wr => ∃ (a : Option Addr) (m c : Nat), v = .slice a m c ∧ Hid (∃ D L, kx = up.length - D.length ∧ L.length = m ∧ NdSt W wr (r + 1) g r up P [] D L (.slice a m c)))
  case atStart => exact ⟨none, 0, 0, rfl, ⟨[], [], rfl, rfl, H4.out⟩⟩
  case round =>
    obtain ⟨va, vn, vc, rfl, HB⟩ := hrel
    clear H4
    obtain ⟨D, L, hkx, hLn, hd⟩ := HB.out
    have HKX : Hid (_ = up.length - D.length ∧ L.length = vn) := ⟨hkx, hLn⟩
    have HD : Hid (NdSt W wr (r + 1) g r up P [] D L (.slice va vn vc)) := hd
    clear HB hkx hLn hd
    rcases HD.out.next with ⟨hall, hrun⟩ | ⟨k, x, w5, hlk, hrun, hent, hmid⟩
    · have HAL : Hid (∀ k ∈ up.map (·.1), k ∈ D) := hall
      have HSO := sort_own (r + 1) wr va vn vc L (by have := HD.out.row; rw [HKX.out.2] at this; exact this) (by have := HD.out.le; have := HI.out.2.2; have := HKX.out.2; simp at *; omega)
      have HS : Hid _ := HSO
      clear hall HSO
      go_wp2_with fail
      refine Calls.mono HS.out ?_
      clear HS
      rintro e w9 ⟨rfl, l', hperm, hsort, hrow, hgr⟩
      have hLl : L = D.filter P := by have := HD.out.ls; simpa using this
      have hlen : l'.length = vn := by rw [hperm.length_eq]; exact HKX.out.2
      have hmem : ∀ x, x ∈ l' ↔ lookI up x = some n := fun x => by
        rw [hperm.mem_iff, hLl, List.mem_filter, HP.out]
        constructor
        · rintro ⟨_, z⟩; simpa using z
        · intro z
          exact ⟨HAL.out x (List.mem_map.2 ⟨_, lookI_some z, rfl⟩), by simpa using z⟩
      have hnd : l'.Nodup := hperm.nodup_iff.2 (by rw [hLl]; exact HD.out.dn.filter _)
      have hlt : l'.Pairwise (· < ·) := by
        refine (hsort.and hnd).imp (fun {a b} z => ?_)
        have := z.1; have := z.2
        omega
      have HF : Hid (SlI w9 (.slice va vn vc) l' ∧ l'.Pairwise (· < ·) ∧ (∀ x, x ∈ l' ↔ lookI up x = some n) ∧ Below w.heap.size w w9) := by
        have hoc := own_caps hrow
        refine ⟨⟨va, vc, by rw [hlen], by rw [hlen]; exact in_of_own hrow (fun x hx => HI.out.1 x (List.mem_map.2 ⟨_, lookI_some ((hmem x).1 hx), rfl⟩)) (by omega), fun e => ?_, by omega, hoc.2⟩, hlt, hmem, ?_⟩
        · subst e
          rcases hrow.2 with ⟨_, e⟩ | ⟨_, _, _, hv, _⟩
          · omega
          · cases hv
        · have b1 := HW.out.1.trans (HD.out.bel.mono HW.out.1.size)
          refine b1.grown hgr b1.size (fun k hk => ?_)
          have := (World.ownsRow.lt hrow k hk).1
          have := HW.out.2
          have := HW.out.1.size
          omega
      clear hperm hsort hrow hgr hLl hlen hmem hnd hlt
      go_wp2
      go_ret
      exact ⟨_, l', rfl, HF.out.1, HF.out.2.1, HF.out.2.2.1, HF.out.2.2.2⟩
    · have HM : Hid (NdMid W wr w5 (r + 1) g r up P [] D L (.slice va vn vc) k) := hmid
      clear hmid
      by_cases hx : x = n
      · have e1 : (x == n) = true := by simpa using hx
        have HPk : Hid (P k = true) := by show P k = true; rw [HP.out, hlk, hx]; simp
        clear hlk hx
        have HA : Hid ((w5.alloc (.cells #[.int .i64 k] 3)).ownsRow (r + 1) 3 1 (.slice va vn vc) vn (L.map cellI)) := by
          have := HM.out.row
          rw [HKX.out.2] at this
          exact row_at this (fun z hz => Below.heap_alloc _ _ _ ((World.ownsRow.lt this z hz).2))
        have HSz : Hid (r + 1 ≤ w5.heap.size) := HM.out.it.lt
        have HLe : Hid (vn ≤ 100000) := by have := HD.out.le; have := HI.out.2.2; have := HKX.out.2; show vn ≤ 100000; simp at *; omega
        go_wp2_with (at_builtin; refine wpList_own_append _ rfl _ _ 24 24 rfl (r + 1) 3 i0 _ 8 Tryz.underlying24 hif hz0 hz1 hz2 rfl _ _ _ rfl HA.out _ 1 [cellI k] rfl (src_oneT w5 k) ?c3 ?c4 ?c5 ?_)
        case c3 => unfold maxLen; have := HLe.out; omega
        case c4 => have := HLe.out; omega
        case c5 => have := HSz.out; simp; omega
        intro v' w6 ha
        obtain ⟨a', c', rfl⟩ := ha.shape
        have H6 : Hid (NdSt W w6 (r + 1) g r up P [] (D ++ [k]) (L ++ [k]) (.slice a' (vn + 1) c')) := by
          have := HKX.out.2
          subst this
          exact HD.out.take HM.out HPk.out _ ha
        clear ha HA HSz
        go_wp2
        go_roundg (up.length - (D.length + 1))
        case measure => have := HD.out.lt HM.out.mem HM.out.out; have := HKX.out.1; omega
        case rel => exact ⟨a', vn + 1, c', rfl, ⟨D ++ [k], L ++ [k], by simp, by simp [HKX.out.2], H6.out⟩⟩
      · have e1 : (x == n) = false := by simpa using hx
        have HPk : Hid (P k = false) := by show P k = false; rw [HP.out, hlk]; simpa using hx
        clear hlk hx
        have H6 : Hid (NdSt W w5 (r + 1) g r up P [] (D ++ [k]) L (.slice va vn vc)) := HD.out.skip HM.out HPk.out
        go_wp2
        go_roundg (up.length - (D.length + 1))
        case measure => have := HD.out.lt HM.out.mem HM.out.out; have := HKX.out.1; omega
        case rel => exact ⟨va, vn, vc, rfl, ⟨D ++ [k], L, by simp, HKX.out.2, H6.out⟩⟩
end Go.Proofs.YtmajlldfiiokoaaGreatDoor

/- tree.Of, of any Walker. -/
namespace Go.Proofs.YtmajlldfiiokoaaGreatDoor
open Go.ChangeShapes Go.WideShapes Go.ChangeAt Go.RowKit Go.Deep
open Go.ChangeMaps (setBlock)
set_option linter.unusedVariables false

/-- The place of a group's key. -/
def gpre : ByteArray := ⟨#[103, 114, 111, 117, 112, 32]⟩
def gkeyT (s : ByteArray) : Int := hashN (gpre ++ s)
theorem gkey_t (s : ByteArray) (w : World) (hs : s.size ≤ 200) : Calls Tryz.prog 34 #[.string s] w fun e w' => e = .returned (.int .u64 (gkeyT s)) ∧ w' = w := by
  have hz : (gpre ++ s).size ≤ 300 := by rw [ByteArray.size_append]; show 6 + s.size ≤ 300; omega
  have H : Hid (Calls Tryz.prog 78 #[.string (gpre ++ s)] w fun e w' => e = .returned (.int .u64 (hashN (gpre ++ s))) ∧ w' = w) := hash_any _ _ hz
  have hl : s.size ≤ 200 := hs
  clear hz
  unfold gpre at H
  go_enter Tryz.func34, Tryz.ntmps34
  go_wp2_with (go_at_call 78; refine Calls.mono H.out ?_; rintro e w' ⟨rfl, hw'⟩; subst w')
  go_ret
  exact ⟨rfl, rfl⟩

/-- What Of answers. -/
def OfR (e : Ending) (w' : World) (c : Int) (t : Tr) : Prop :=
  (c ≠ 0 ∧ e = .returned (.tuple #[.agg #[.int .i64 0, .map none], .iface 116 (.int .i64 c)])) ∨
  (c = 0 ∧ ∃ g, e = .returned (.tuple #[.agg #[.int .i64 t.root, .map (some g)], .nilIface]) ∧ UpAt w' g t.up)
theorem code_ne {c : Int} (h : c ≠ 0) : codeV c = .iface 116 (.int .i64 c) := by unfold codeV; rw [if_neg h]
theorem code_nil {c : Int} (h : c = 0) : codeV c = .nilIface := by unfold codeV; rw [if_pos h]
theorem take_snocI (l : List Int) {j : Nat} (h : j < l.length) : l.take (j + 1) = l.take j ++ [l.getD j 0] := by
  rw [List.take_succ_eq_append_getElem h]; simp [List.getD, h]

set_option maxRecDepth 100000 in
set_option maxHeartbeats 4000000 in
theorem tree_of (w : World) (T : TypeId) (v : Value) (K : Nat) (nx : Int → Option Int) (name : ByteArray) (a : Option Addr) (n c : Nat) (ms : List Int) (hn : name.size ≤ 200) (hin : InIn w a n ms) (hk : Wk w T v K (gkeyT name) nx) (hnx : nx (-1) = none) (h1000 : n ≤ 1000) :
    Calls Tryz.prog 16 #[.iface T v, .string name, .slice a n c] w fun e w' => OfR e w' (treeOf nx ms).1 (treeOf nx ms).2 ∧ Below w.heap.size w w' := by
  have hmm := @run_makeMap Tryz.prog
  obtain ⟨x, hx⟩ : ∃ x, x = gkeyT name := ⟨_, rfl⟩
  obtain ⟨q0, hq0⟩ : ∃ q, q = w.heap.size := ⟨_, rfl⟩
  obtain ⟨W1, hW1⟩ : ∃ W, W = w.alloc (.cells #[.int .i64 0, .map none] 43) := ⟨_, rfl⟩
  obtain ⟨W3, hW3⟩ : ∃ W3, W3 = (W1.alloc (.map #[] 0)).alloc (.cells #[.int .i64 (-1), .map (some W1.heap.size), .iface T v, .int .u64 x, .bool false] 115) := ⟨_, rfl⟩
  obtain ⟨q, hqq⟩ : ∃ q, q = W1.heap.size + 1 := ⟨_, rfl⟩
  obtain ⟨g, hgg⟩ : ∃ g, g = W1.heap.size := ⟨_, rfl⟩
  have b1 : Below w.heap.size w W1 := by rw [hW1]; exact below_one _ _
  have b3 : Below W1.heap.size W1 W3 := by rw [hW3]; exact (below_one _ _).trans ((below_one _ _).mono (by simp))
  have hg3 : GwAt W3 q g tr0 (.iface T v) x := by
    refine ⟨?_, ?_⟩
    · rw [hqq, hgg, hW3]
      have e := heap_alloc_new (W1.alloc (.map #[] 0)) (.cells #[.int .i64 (-1), .map (some W1.heap.size), .iface T v, .int .u64 x, .bool false] 115)
      rw [show (W1.alloc (.map #[] 0)).heap.size = W1.heap.size + 1 by simp] at e
      exact e
    · have hm := MpK.made (kv := kvI) W1
      rw [hgg]
      refine hm.of_block ?_
      rw [hW3]
      exact Below.heap_alloc _ _ _ (by simp)
  have r0 : W1.heap[q0]? = some (.cells #[.int .i64 0, .map none] 43 (0, 0)) := by rw [hW1, hq0]; exact heap_alloc_new w _
  have H : Hid (InIn W1 a n ms ∧ Wk W1 T v K x nx ∧ nx (-1) = none ∧ name.size ≤ 200 ∧ n ≤ 1000 ∧ ms.length = n) :=
    ⟨hin.below (Nat.le_refl _) b1, by rw [hx]; exact ⟨hk.mth, hk.ent, fun W n hW => hk.call W n (b1.trans (hW.mono b1.size))⟩, hnx, hn, h1000, hin.1⟩
  have HX : Hid (gkeyT name = x) := hx.symm
  have HW : Hid (Below w.heap.size w W1 ∧ Below W1.heap.size W1 W3 ∧ GwAt W3 q g tr0 (.iface T v) x ∧ W1.heap[q0]? = some (.cells #[.int .i64 0, .map none] 43 (0, 0)) ∧ W1.heap.size ≤ q ∧ W1.heap.size ≤ g ∧ w.heap.size ≤ q0) := ⟨b1, b3, hg3, r0, by omega, by omega, by omega⟩
  clear hin hk hnx hn h1000 hx b1 b3 hg3 r0
  go_enter Tryz.func16, Tryz.ntmps16
  go_upto_region 1 with fail
  rw [← hW1]
  try rw [← hq0]
  clear hW1 hq0
  go_cut [8] (fun p wx => p = .pointer (some ⟨q, 0, none⟩) ∧ wx = W3)
  case first =>
    go_wp2_with (go_at_call 34; refine (gkey_t name _ H.out.2.2.2.1).mono ?_; rintro e w' ⟨rfl, hw'⟩; subst w'; rw [HX.out])
    go_meet
    refine ⟨?_, hW3.symm⟩
    rw [hqq]
  case rest =>
    rename World => W4
    obtain ⟨rfl, hw4⟩ := hcut
    subst W4
    clear hW3 hqq hgg hmm
    go_wp2
    go_loopg [20] n (fun kx s wr => ∃ (j : Nat) (t : Tr), s = .int .i64 j ∧ j ≤ n ∧ kx = n - j ∧ Hid (GwAt wr q g t (.iface T v) x ∧ Below W1.heap.size W1 wr ∧ ofT nx tr0 (ms.take j) = (0, t)))
    case atStart => exact ⟨0, tr0, rfl, Nat.zero_le _, rfl, ⟨HW.out.2.2.1, HW.out.2.1, by rw [List.take_zero, ofT_nil]⟩⟩
    case round =>
      obtain ⟨j, t, rfl, hj, rfl, HB⟩ := hrel
      have hn1 := H.out.2.2.2.2.1
      have r0 := (HB.out.2.1.block q0 (lt_of_block HW.out.2.2.2.1)).trans HW.out.2.2.2.1
      by_cases hlt : j < n
      · obtain ⟨mb, mo, hmb, hml, _, hmc⟩ := (H.out.1.below (Nat.le_refl _) HB.out.2.1).one (v := Value.int .i64) (fun _ => rfl) (i := j) hlt
        subst hmb
        have hsn := take_snocI ms (j := j) (by rw [H.out.2.2.2.2.2]; exact hlt)
        obtain ⟨y, hy⟩ : ∃ y, y = ms.getD j 0 := ⟨_, rfl⟩
        rw [← hy] at hmc hsn
        have HO : Hid (ofT nx tr0 (ms.take (j + 1)) = walkT nx 66 t y) := by
          show ofT nx tr0 (ms.take (j + 1)) = _
          rw [hsn, of_snoc nx _ _ _ (by rw [HB.out.2.2]), HB.out.2.2]
        clear hy hsn
        go_wp2_with fail
        refine (walk_any W1 wr q g T v K x nx t y H.out.2.1 HB.out.1 HB.out.2.1 HW.out.2.2.2.2.1 HW.out.2.2.2.2.2.1 H.out.2.2.1).mono ?_
        rintro e w5 ⟨rfl, h5, b5⟩
        obtain ⟨cd, hcd⟩ : ∃ o, o = (walkT nx 66 t y).1 := ⟨_, rfl⟩
        rw [← hcd]
        have H5 : Hid (GwAt w5 q g (walkT nx 66 t y).2 (.iface T v) x ∧ Below W1.heap.size W1 w5) := ⟨h5, b5⟩
        have r5 := (b5.block q0 (lt_of_block HW.out.2.2.2.1)).trans HW.out.2.2.2.1
        have l5 := lt_of_block r5
        have c50 : w5.cell? ⟨q0, 0, none⟩ = some (.int .i64 0) := by simp [World.cell?, r5]
        have c51 : w5.cell? ⟨q0, 1, none⟩ = some (.map none) := by simp [World.cell?, r5]
        have f50 : w5.frozen? ⟨q0, 0, none⟩ = false := by simp [World.frozen?, r5]
        have f51 : w5.frozen? ⟨q0, 1, none⟩ = false := by simp [World.frozen?, r5]
        clear h5 b5
        by_cases hc : cd = 0
        · have HC : Hid (ofT nx tr0 (ms.take (j + 1)) = (0, (walkT nx 66 t y).2)) := by
            show _ = _
            rw [HO.out]
            exact Prod.ext (by rw [← hcd]; exact hc) rfl
          rw [code_nil hc]
          clear hc hcd r0 r5 c50 c51 f50 f51 hmc
          go_wp2
          go_roundg (n - (j + 1))
          case measure => omega
          case rel => exact ⟨j + 1, _, by go_num, by omega, rfl, ⟨H5.out.1, H5.out.2, HC.out⟩⟩
        · have HC : Hid ((treeOf nx ms).1 = cd ∧ cd ≠ 0) := by
            refine ⟨?_, hc⟩
            have e1 : (ofT nx tr0 (ms.take (j + 1))).1 = cd := by rw [HO.out, hcd]
            have e2 : ofT nx tr0 ms = ofT nx tr0 (ms.take (j + 1)) := by
              conv => lhs; rw [← List.take_append_drop (j + 1) ms]
              exact of_stop nx _ _ _ (by rw [e1]; exact hc)
            unfold treeOf
            rw [e2, if_pos (by rw [e1]; exact hc)]
            exact e1
          rw [code_ne hc]
          clear hc hcd r0 hmc
          go_wp2
          refine bodyPost_ret (v := .tuple #[.agg #[.int .i64 0, .map none], .iface 116 (.int .i64 cd)]) (by simp [results, Tryz.results16, go_sem, *]) rfl ⟨.inl ⟨?_, ?_⟩, ?_⟩
          · rw [HC.out.1]; exact HC.out.2
          · rw [HC.out.1]
          · have b := HW.out.1.trans (H5.out.2.mono HW.out.1.size)
            have hq := HW.out.2.2.2.2.2.2
            first
              | exact (b.setCell (p := ⟨q0, 0, none⟩) hq _).setCell (p := ⟨q0, 1, none⟩) hq _
              | exact b
      · obtain rfl : j = n := by omega
        have HF : Hid (ofT nx tr0 ms = (0, t)) := by have := HB.out.2.2; rw [List.take_of_length_le (by rw [H.out.2.2.2.2.2]; exact Nat.le_refl _)] at this; exact this
        obtain ⟨d0, d1, _, _, _, dl, _⟩ := HB.out.1.cells
        have l0 := lt_of_block r0
        have c00 : wr.cell? ⟨q0, 0, none⟩ = some (.int .i64 0) := by simp [World.cell?, r0]
        have c01 : wr.cell? ⟨q0, 1, none⟩ = some (.map none) := by simp [World.cell?, r0]
        have f00 : wr.frozen? ⟨q0, 0, none⟩ = false := by simp [World.frozen?, r0]
        have f01 : wr.frozen? ⟨q0, 1, none⟩ = false := by simp [World.frozen?, r0]
        have HBe : Hid (Below w.heap.size w wr ∧ w.heap.size ≤ q0 ∧ q0 < q) := ⟨HW.out.1.trans (HB.out.2.1.mono HW.out.1.size), HW.out.2.2.2.2.2.2, by have := lt_of_block HW.out.2.2.2.1; have := HW.out.2.2.2.2.1; omega⟩
        have HTO : Hid (treeOf nx ms = if 0 < ms.length ∧ t.root = -1 then (13, t) else (0, t)) := by
          show treeOf nx ms = _
          unfold treeOf
          rw [HF.out]
          simp
        by_cases h0 : 0 < j
        · have h0I : (0 : Int) < (j : Int) := by omega
          by_cases hr : t.root = -1
          · have e1 : (t.root == -1) = true := by simpa using hr
            have HT : Hid (treeOf nx ms = (13, t)) := by have := HTO.out; rw [if_pos ⟨by rw [H.out.2.2.2.2.2]; exact h0, hr⟩] at this; exact this
            clear hr hlt h0 r0
            go_wp2
            refine bodyPost_ret (v := .tuple #[.agg #[.int .i64 0, .map none], .iface 116 (.int .i64 13)]) (by simp [results, Tryz.results16, go_sem, *]) rfl ⟨.inl ⟨?_, ?_⟩, ?_⟩
            · rw [HT.out]; simp
            · rw [HT.out]
            · have b := HBe.out.1
              have hq := HBe.out.2.1
              first
                | exact (b.setCell (p := ⟨q0, 0, none⟩) hq _).setCell (p := ⟨q0, 1, none⟩) hq _
                | exact b
          · have e1 : (t.root == -1) = false := by simpa using hr
            have HT : Hid (treeOf nx ms = (0, t)) := by have := HTO.out; rw [if_neg (fun z => hr z.2)] at this; exact this
            clear hr hlt h0 r0
            go_wp2
            refine bodyPost_ret (v := .tuple #[.agg #[.int .i64 t.root, .map (some g)], .nilIface]) (by simp [results, Tryz.results16, go_sem, *]) rfl ⟨.inr ⟨?_, ?_⟩, ?_⟩
            · rw [HT.out]
            · rw [HT.out]
              refine ⟨g, rfl, HB.out.1.up.of_block ?_⟩
              have hne : g ≠ q0 := by have := lt_of_block HW.out.2.2.2.1; have := HW.out.2.2.2.2.2.1; omega
              first
                | rw [Below.heap_setCell _ ⟨q0, 1, none⟩ _ _ hne, Below.heap_setCell _ ⟨q0, 0, none⟩ _ _ hne]
                | rfl
            · have b := HBe.out.1
              have hq := HBe.out.2.1
              first
                | exact (b.setCell (p := ⟨q0, 0, none⟩) hq _).setCell (p := ⟨q0, 1, none⟩) hq _
                | exact b
        · obtain rfl : j = 0 := by omega
          have HT : Hid (treeOf nx ms = (0, t)) := by have := HTO.out; rw [if_neg (fun z => by have := z.1; rw [H.out.2.2.2.2.2] at this; exact h0 this)] at this; exact this
          clear hlt h0 r0
          go_wp2
          refine bodyPost_ret (v := .tuple #[.agg #[.int .i64 t.root, .map (some g)], .nilIface]) (by simp [results, Tryz.results16, go_sem, *]) rfl ⟨.inr ⟨?_, ?_⟩, ?_⟩
          · rw [HT.out]
          · rw [HT.out]
            refine ⟨g, rfl, HB.out.1.up.of_block ?_⟩
            have hne : g ≠ q0 := by have := lt_of_block HW.out.2.2.2.1; have := HW.out.2.2.2.2.2.1; omega
            first
              | rw [Below.heap_setCell _ ⟨q0, 1, none⟩ _ _ hne, Below.heap_setCell _ ⟨q0, 0, none⟩ _ _ hne]
              | rfl
          · have b := HBe.out.1
            have hq := HBe.out.2.1
            first
              | exact (b.setCell (p := ⟨q0, 0, none⟩) hq _).setCell (p := ⟨q0, 1, none⟩) hq _
              | exact b
end Go.Proofs.YtmajlldfiiokoaaGreatDoor
