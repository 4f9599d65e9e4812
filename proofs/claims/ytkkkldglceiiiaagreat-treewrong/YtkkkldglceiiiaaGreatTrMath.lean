/- Trees out of whoever is next: plain lists. No program in sight. -/
import Derived.WalkKit
namespace Go.Proofs.YtkkkldglceiiiaaGreat
set_option linter.unusedVariables false

theorem nodup_le {α : Type} [DecidableEq α] : ∀ (t l : List α), t.Nodup → (∀ x, x ∈ t → x ∈ l) → t.length ≤ l.length
  | [], l, _, _ => Nat.zero_le _
  | a :: t, l, hp, hs => by
    have ha : a ∈ l := hs a (by simp)
    obtain ⟨h1, h2⟩ := List.nodup_cons.1 hp
    have ih := nodup_le t (l.erase a) h2 (fun x hx => (List.mem_erase_of_ne (show x ≠ a from fun e => h1 (by rw [← e]; exact hx))).2 (hs x (List.mem_cons_of_mem _ hx)))
    have := List.length_erase_of_mem ha
    have : 0 < l.length := List.length_pos_of_mem ha
    simp only [List.length_cons]
    omega

/-- Whom one tells. -/
def lookI : List (Int × Int) → Int → Option Int
  | [], _ => none
  | p :: m, k => if p.1 = k then some p.2 else lookI m k
theorem lookI_none {m : List (Int × Int)} {k : Int} : lookI m k = none ↔ k ∉ m.map (·.1) := by
  induction m with
  | nil => simp [lookI]
  | cons p m ih =>
    by_cases h : p.1 = k
    · simp [lookI, h]
    · have : ¬ k = p.1 := fun e => h e.symm
      simp only [lookI, h, if_false, ih, List.map_cons, List.mem_cons, this, false_or]
theorem lookI_some {m : List (Int × Int)} {k v : Int} (h : lookI m k = some v) : (k, v) ∈ m := by
  induction m with
  | nil => cases h
  | cons p m ih =>
    by_cases hp : p.1 = k
    · simp only [lookI, hp, if_true, Option.some.injEq] at h
      subst hp; subst h; simp
    · simp only [lookI, hp, if_false] at h
      exact List.mem_cons_of_mem _ (ih h)
theorem lookI_mem {m : List (Int × Int)} (hn : (m.map (·.1)).Nodup) {k v : Int} (h : (k, v) ∈ m) : lookI m k = some v := by
  induction m with
  | nil => cases h
  | cons p m ih =>
    obtain ⟨h1, h2⟩ := List.nodup_cons.1 hn
    have h1 : p.1 ∉ m.map (·.1) := h1
    rcases List.mem_cons.1 h with e | h
    · subst e; simp [lookI]
    · have : ¬ p.1 = k := fun e => h1 (by rw [e]; exact List.mem_map.2 ⟨(k, v), h, rfl⟩)
      simp only [lookI, this, if_false]; exact ih h2 h
theorem lookI_snoc (m : List (Int × Int)) (k v n : Int) (hk : lookI m k = none) : lookI (m ++ [(k, v)]) n = if n = k then some v else lookI m n := by
  induction m with
  | nil =>
    by_cases e : k = n
    · subst e; simp [lookI]
    · have : ¬ n = k := fun q => e q.symm
      simp [lookI, e, this]
  | cons p m ih =>
    have hpk : ¬ p.1 = k := fun e => by simp [lookI, e] at hk
    have hk' : lookI m k = none := by simpa [lookI, hpk] using hk
    by_cases e : p.1 = n
    · have : ¬ n = k := fun q => hpk (by rw [e, q])
      simp [lookI, e, this]
    · simp only [List.cons_append, lookI, e, if_false, ih hk']

/-- A tree: its root (-1: none), and who tells whom. -/
structure Tr where
  root : Int
  up : List (Int × Int)
def Tr.tells (t : Tr) (n : Int) : Bool := (lookI t.up n).isSome
def Tr.has (t : Tr) (n : Int) : Bool := t.tells n || (t.root != -1 && n == t.root)
def tr0 : Tr := ⟨-1, []⟩
/-- From a node on; the code (0: none) and the tree. -/
def walkT (nx : Int → Option Int) : Nat → Tr → Int → Int × Tr
  | 0, t, _ => (0, t)
  | f + 1, t, n =>
    if t.has n then (0, t) else
    match nx n with
    | none => (6, t)
    | some v => if v = n then (if t.root = -1 then (0, ⟨n, t.up⟩) else (5, t)) else walkT nx f ⟨t.root, t.up ++ [(n, v)]⟩ v
def ofT (nx : Int → Option Int) : Tr → List Int → Int × Tr
  | t, [] => (0, t)
  | t, n :: l => if (walkT nx 66 t n).1 = 0 then ofT nx (walkT nx 66 t n).2 l else walkT nx 66 t n
def treeOf (nx : Int → Option Int) (l : List Int) : Int × Tr :=
  if (ofT nx tr0 l).1 ≠ 0 then (ofT nx tr0 l)
  else if 0 < l.length ∧ (ofT nx tr0 l).2.root = -1 then (13, (ofT nx tr0 l).2) else (0, (ofT nx tr0 l).2)

/-- What holds of a tree that is made. -/
structure TrOk (nx : Int → Option Int) (t : Tr) : Prop where
  nd : (t.up.map (·.1)).Nodup
  st : ∀ n v, lookI t.up n = some v → nx n = some v ∧ v ≠ n
  rt : t.root ≠ -1 → nx t.root = some t.root
theorem TrOk.zero (nx : Int → Option Int) : TrOk nx tr0 := ⟨by simp [tr0], fun n v h => by simp [tr0, lookI] at h, fun h => absurd rfl h⟩
theorem Tr.has_iff {t : Tr} {n : Int} : t.has n = true ↔ (∃ v, lookI t.up n = some v) ∨ (t.root ≠ -1 ∧ n = t.root) := by
  unfold Tr.has Tr.tells
  simp [Option.isSome_iff_exists]
theorem TrOk.has {nx : Int → Option Int} {t : Tr} (h : TrOk nx t) {n : Int} (hn : t.has n = true) : ∃ v, nx n = some v := by
  rcases Tr.has_iff.1 hn with ⟨v, hv⟩ | ⟨h1, rfl⟩
  · exact ⟨v, (h.st _ _ hv).1⟩
  · exact ⟨_, h.rt h1⟩
theorem Tr.has_no {t : Tr} {n : Int} (h : t.has n = false) : lookI t.up n = none ∧ (t.root = -1 ∨ n ≠ t.root) := by
  have h' : ¬ t.has n = true := by rw [h]; simp
  rw [Tr.has_iff] at h'
  refine ⟨?_, ?_⟩
  · cases q : lookI t.up n with
    | none => rfl
    | some v => exact absurd (.inl ⟨v, q⟩) h'
  · by_cases q : t.root = -1
    · exact .inl q
    · exact .inr fun e => h' (.inr ⟨q, e⟩)
theorem TrOk.put {nx : Int → Option Int} {t : Tr} (h : TrOk nx t) {n v : Int} (hn : t.has n = false) (hv : nx n = some v) (hne : v ≠ n) : TrOk nx ⟨t.root, t.up ++ [(n, v)]⟩ := by
  obtain ⟨h1, h2⟩ := Tr.has_no hn
  refine ⟨?_, fun a b hab => ?_, h.rt⟩
  · rw [List.map_append]
    refine List.nodup_append.2 ⟨h.nd, by simp, fun a ha b hb e => ?_⟩
    simp at hb
    subst hb; subst e
    exact lookI_none.1 h1 ha
  · rw [lookI_snoc _ _ _ _ h1] at hab
    by_cases e : a = n
    · rw [if_pos e] at hab
      cases hab
      subst e
      exact ⟨hv, hne⟩
    · rw [if_neg e] at hab
      exact h.st _ _ hab
theorem TrOk.made {nx : Int → Option Int} {t : Tr} (h : TrOk nx t) {n : Int} (hv : nx n = some n) : TrOk nx ⟨n, t.up⟩ := ⟨h.nd, h.st, fun _ => hv⟩
theorem TrOk.walk {nx : Int → Option Int} : ∀ (f : Nat) (t : Tr) (n : Int), TrOk nx t → TrOk nx (walkT nx f t n).2
  | 0, t, n, h => h
  | f + 1, t, n, h => by
    unfold walkT
    cases q : t.has n
    · simp only [Bool.false_eq_true, if_false]
      cases hv : nx n with
      | none => exact h
      | some v =>
        simp only
        by_cases e : v = n
        · rw [if_pos e]
          subst e
          by_cases e2 : t.root = -1
          · rw [if_pos e2]; exact h.made hv
          · rw [if_neg e2]; exact h
        · rw [if_neg e]
          exact TrOk.walk f _ _ (h.put q hv e)
    · simp only [if_true]; exact h
theorem TrOk.of {nx : Int → Option Int} : ∀ (l : List Int) (t : Tr), TrOk nx t → TrOk nx (ofT nx t l).2
  | [], t, h => h
  | n :: l, t, h => by
    unfold ofT
    have := h.walk 66 t n
    split
    · exact TrOk.of l _ this
    · exact this
theorem tree_snd (nx : Int → Option Int) (l : List Int) : (treeOf nx l).2 = (ofT nx tr0 l).2 := by
  unfold treeOf
  split
  · rfl
  · split <;> rfl
theorem tree_ok (nx : Int → Option Int) (l : List Int) : TrOk nx (treeOf nx l).2 := by
  rw [tree_snd]; exact TrOk.of l _ (TrOk.zero nx)
theorem ofT_cons (nx : Int → Option Int) (t : Tr) (n : Int) (l : List Int) : ofT nx t (n :: l) = if (walkT nx 66 t n).1 = 0 then ofT nx (walkT nx 66 t n).2 l else walkT nx 66 t n := by simp only [ofT]
theorem ofT_nil (nx : Int → Option Int) (t : Tr) : ofT nx t [] = (0, t) := by simp only [ofT]
theorem of_snoc (nx : Int → Option Int) : ∀ (l : List Int) (t : Tr) (n : Int), (ofT nx t l).1 = 0 → ofT nx t (l ++ [n]) = walkT nx 66 (ofT nx t l).2 n
  | [], t, n, _ => by
    rw [ofT_nil, List.nil_append, ofT_cons, ofT_nil]
    split
    · rename_i h
      exact Prod.ext h.symm rfl
    · rfl
  | m :: l, t, n, h => by
    rw [List.cons_append, ofT_cons, ofT_cons]
    rw [ofT_cons] at h
    by_cases q : (walkT nx 66 t m).1 = 0
    · rw [if_pos q] at h
      rw [if_pos q, if_pos q]
      exact of_snoc nx l _ n h
    · rw [if_neg q] at h
      exact absurd h q
theorem of_stop (nx : Int → Option Int) : ∀ (l r : List Int) (t : Tr), (ofT nx t l).1 ≠ 0 → ofT nx t (l ++ r) = ofT nx t l
  | [], r, t, h => absurd (by rw [ofT_nil]) h
  | m :: l, r, t, h => by
    rw [List.cons_append, ofT_cons, ofT_cons]
    rw [ofT_cons] at h
    by_cases q : (walkT nx 66 t m).1 = 0
    · rw [if_pos q] at h
      rw [if_pos q, if_pos q]
      exact of_stop nx l r _ h
    · rw [if_neg q, if_neg q]

/-- From a node it is just so many steps up to the root. -/
def Tr.rch (t : Tr) : Nat → Int → Prop
  | 0, n => n = t.root
  | k + 1, n => n ≠ t.root ∧ ∃ v, lookI t.up n = some v ∧ t.rch k v
theorem rch_uniq {t : Tr} : ∀ {k j : Nat} {n : Int}, t.rch k n → t.rch j n → k = j
  | 0, 0, _, _, _ => rfl
  | 0, _ + 1, _, h, h' => absurd h h'.1
  | _ + 1, 0, _, h, h' => absurd h' h.1
  | k + 1, j + 1, n, ⟨_, v, hv, h⟩, ⟨_, u, hu, h'⟩ => by
    rw [hv] at hu
    cases hu
    rw [rch_uniq h h']
/-- The nodes on the way up. -/
theorem rch_list {t : Tr} : ∀ (k : Nat) (n : Int), t.rch k n → ∃ l : List Int, l.length = k ∧ (∀ x ∈ l, x ∈ t.up.map (·.1) ∧ ∃ j, 0 < j ∧ j ≤ k ∧ t.rch j x) ∧ l.Nodup
  | 0, n, _ => ⟨[], rfl, fun x hx => (by cases hx), List.nodup_nil⟩
  | k + 1, n, h => by
    obtain ⟨h1, v, hv, h2⟩ := h
    obtain ⟨l, hl, hx, hn⟩ := rch_list k v h2
    refine ⟨n :: l, by simp [hl], fun x hx' => ?_, List.nodup_cons.2 ⟨fun hm => ?_, hn⟩⟩
    · rcases List.mem_cons.1 hx' with rfl | hm
      · exact ⟨List.mem_map.2 ⟨_, lookI_some hv, rfl⟩, k + 1, by omega, Nat.le_refl _, h1, v, hv, h2⟩
      · obtain ⟨a, j, b, c, d⟩ := hx x hm
        exact ⟨a, j, b, by omega, d⟩
    · obtain ⟨_, j, _, hj, hr⟩ := hx n hm
      have := rch_uniq (show t.rch (k + 1) n from ⟨h1, v, hv, h2⟩) hr
      omega
theorem rch_le {t : Tr} {k : Nat} {n : Int} (h : t.rch k n) : k ≤ t.up.length := by
  obtain ⟨l, hl, hx, hn⟩ := rch_list k n h
  have := nodup_le l (t.up.map (·.1)) hn (fun x hx' => (hx x hx').1)
  simp at this
  omega
/-- How deep, by so many tries. -/
def Tr.dep (t : Tr) : Nat → Nat → Int → Int
  | 0, _, _ => -1
  | f + 1, s, n => if n = t.root then s else match lookI t.up n with
    | none => -1
    | some v => t.dep f (s + 1) v
theorem dep_yes {t : Tr} : ∀ (f k s : Nat) (n : Int), t.rch k n → k < f → t.dep f s n = (s : Int) + k
  | 0, k, s, n, _, h => absurd h (Nat.not_lt_zero _)
  | f + 1, 0, s, n, h, _ => by
    unfold Tr.dep
    have h : n = t.root := h
    rw [if_pos h]; simp
  | f + 1, k + 1, s, n, ⟨h1, v, hv, h2⟩, hk => by
    unfold Tr.dep
    rw [if_neg h1, hv]
    have := dep_yes f k (s + 1) v h2 (by omega)
    simp only
    rw [this]; omega
theorem dep_no {t : Tr} : ∀ (f s : Nat) (n : Int), (∀ k, ¬ t.rch k n) → t.dep f s n = -1
  | 0, s, n, _ => rfl
  | f + 1, s, n, h => by
    unfold Tr.dep
    rw [if_neg (show ¬ n = t.root from fun e => h 0 e)]
    cases hv : lookI t.up n with
    | none => rfl
    | some v => exact dep_no f (s + 1) v (fun k hk => h (k + 1) ⟨fun e => h 0 e, v, hv, hk⟩)
/-- How deep a node is; -1: it is none of the tree. -/
def Tr.depth (t : Tr) (n : Int) : Int := if t.root = -1 then -1 else t.dep (t.up.length + 1) 0 n
theorem depth_yes {t : Tr} {n : Int} {k : Nat} (hr : t.root ≠ -1) (h : t.rch k n) : t.depth n = k := by
  unfold Tr.depth
  rw [if_neg hr, dep_yes _ k 0 n h (by have := rch_le h; omega)]
  simp
theorem dep_any {t : Tr} (f : Nat) (n : Int) (hf : t.up.length < f) : t.dep f 0 n = t.dep (t.up.length + 1) 0 n := by
  by_cases h : ∃ k, t.rch k n
  · obtain ⟨k, hk⟩ := h
    have := rch_le hk
    rw [dep_yes _ k 0 n hk (by omega), dep_yes _ k 0 n hk (by omega)]
  · have h' : ∀ k, ¬ t.rch k n := fun k hk => h ⟨k, hk⟩
    rw [dep_no _ _ _ h', dep_no _ _ _ h']
theorem depth_ge {t : Tr} {n : Int} (h : 0 ≤ t.depth n) : t.root ≠ -1 ∧ ∃ k, t.rch k n ∧ t.depth n = k := by
  have hr : t.root ≠ -1 := fun e => by rw [Tr.depth, if_pos e] at h; omega
  refine ⟨hr, ?_⟩
  by_cases q : ∃ k, t.rch k n
  · obtain ⟨k, hk⟩ := q
    exact ⟨k, hk, depth_yes hr hk⟩
  · rw [Tr.depth, if_neg hr, dep_no _ _ _ (fun k hk => q ⟨k, hk⟩)] at h
    omega
/-- Whoever tells another one is one deeper. -/
theorem depth_up {nx : Int → Option Int} {t : Tr} (ht : TrOk nx t) {c n : Int} (hc : lookI t.up c = some n) (h : 0 ≤ t.depth n) : t.depth c = t.depth n + 1 := by
  obtain ⟨hr, k, hk, e⟩ := depth_ge h
  have hcr : c ≠ t.root := fun q => by
    have h1 := ht.rt hr
    have h2 := ht.st _ _ hc
    rw [q, h1] at h2
    exact h2.2 (Option.some.inj h2.1).symm
  rw [e, depth_yes hr (show t.rch (k + 1) c from ⟨hcr, n, hc, hk⟩)]
  simp
/-- All of it. -/
def Tr.inT (t : Tr) (n : Int) : Prop := (t.root ≠ -1 ∧ n = t.root) ∨ ∃ v, lookI t.up n = some v
end Go.Proofs.YtkkkldglceiiiaaGreat
