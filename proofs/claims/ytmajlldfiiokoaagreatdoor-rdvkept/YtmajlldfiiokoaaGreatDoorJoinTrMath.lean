/- Trees out of whoever is next: plain lists. No program in sight. -/
import Derived.WalkKit
import Derived.MapKept
import Derived.Below
import Derived.Maps.RangeRun
import Derived.Maps.RangeWalk
import Derived.Test.YtmajlldfiiokoaaGreatDoorJoinPrInts
import Derived.Test.YtmajlldfiiokoaaGreatDoorFam
import Derived.Deep.CutBlock
import Derived.Deep.DeepCutAuto
import Derived.Deep.LoopGhost
import Derived.Test.YtmajlldfiiokoaaGreatDoorRing
import Derived.Deep.RegionHeld3
import Derived.Test.YtmajlldfiiokoaaGreatDoorShelf
import Derived.Sort.OwnSortedInts
import Derived.Deep.AppendLies
set_option linter.unnecessarySimpa false
namespace Go.Proofs.YtmajlldfiiokoaaGreatDoor
set_option linter.unusedVariables false

theorem nodup_le {α : Type} [DecidableEq α] : ∀ (t l : List α), t.Nodup → (∀ x, x ∈ t → x ∈ l) → t.length ≤ l.length
  | [], l, _, _ => Nat.zero_le _
  | a :: t, l, hp, hs => by
    have ha : a ∈ l := hs a (by simp)
    obtain ⟨h1, h2⟩ := List.nodup_cons.1 hp
    have ih := nodup_le t (l.erase a) h2 (fun x hx => (List.mem_erase_of_ne (show x ≠ a from fun e => h1 (by rw [← e]; exact hx))).2 (hs x (List.mem_cons_of_mem _ hx)))
    have := List.length_erase_of_mem ha
    have : 0 < l.length := List.length_pos_of_mem ha
    simp only [List.length_cons]
    omega

/-- Whom one tells. -/
def lookI : List (Int × Int) → Int → Option Int
  | [], _ => none
  | p :: m, k => if p.1 = k then some p.2 else lookI m k
theorem lookI_none {m : List (Int × Int)} {k : Int} : lookI m k = none ↔ k ∉ m.map (·.1) := by
  induction m with
  | nil => simp [lookI]
  | cons p m ih =>
    by_cases h : p.1 = k
    · simp [lookI, h]
    · have : ¬ k = p.1 := fun e => h e.symm
      simp only [lookI, h, if_false, ih, List.map_cons, List.mem_cons, this, false_or]
theorem lookI_mem {m : List (Int × Int)} (hn : (m.map (·.1)).Nodup) {k v : Int} (h : (k, v) ∈ m) : lookI m k = some v := by
  induction m with
  | nil => cases h
  | cons p m ih =>
    obtain ⟨h1, h2⟩ := List.nodup_cons.1 hn
    have h1 : p.1 ∉ m.map (·.1) := h1
    rcases List.mem_cons.1 h with e | h
    · subst e; simp [lookI]
    · have : ¬ p.1 = k := fun e => h1 (by rw [e]; exact List.mem_map.2 ⟨(k, v), h, rfl⟩)
      simp only [lookI, this, if_false]; exact ih h2 h
theorem lookI_snoc (m : List (Int × Int)) (k v n : Int) (hk : lookI m k = none) : lookI (m ++ [(k, v)]) n = if n = k then some v else lookI m n := by
  induction m with
  | nil =>
    by_cases e : k = n
    · subst e; simp [lookI]
    · have : ¬ n = k := fun q => e q.symm
      simp [lookI, e, this]
  | cons p m ih =>
    have hpk : ¬ p.1 = k := fun e => by simp [lookI, e] at hk
    have hk' : lookI m k = none := by simpa [lookI, hpk] using hk
    by_cases e : p.1 = n
    · have : ¬ n = k := fun q => hpk (by rw [e, q])
      simp [lookI, e, this]
    · simp only [List.cons_append, lookI, e, if_false, ih hk']

/-- A tree: its root (-1: none), and who tells whom. -/
structure Tr where
  root : Int
  up : List (Int × Int)
def Tr.tells (t : Tr) (n : Int) : Bool := (lookI t.up n).isSome
def Tr.has (t : Tr) (n : Int) : Bool := t.tells n || (t.root != -1 && n == t.root)
def tr0 : Tr := ⟨-1, []⟩
/-- From a node on; the code (0: none) and the tree. -/
def walkT (nx : Int → Option Int) : Nat → Tr → Int → Int × Tr
  | 0, t, _ => (0, t)
  | f + 1, t, n =>
    if t.has n then (0, t) else
    match nx n with
    | none => (6, t)
    | some v => if v = n then (if t.root = -1 then (0, ⟨n, t.up⟩) else (5, t)) else walkT nx f ⟨t.root, t.up ++ [(n, v)]⟩ v
def ofT (nx : Int → Option Int) : Tr → List Int → Int × Tr
  | t, [] => (0, t)
  | t, n :: l => if (walkT nx 66 t n).1 = 0 then ofT nx (walkT nx 66 t n).2 l else walkT nx 66 t n
def treeOf (nx : Int → Option Int) (l : List Int) : Int × Tr :=
  if (ofT nx tr0 l).1 ≠ 0 then (ofT nx tr0 l)
  else if 0 < l.length ∧ (ofT nx tr0 l).2.root = -1 then (13, (ofT nx tr0 l).2) else (0, (ofT nx tr0 l).2)

/-- What holds of a tree that is made. -/
structure TrOk (nx : Int → Option Int) (t : Tr) : Prop where
  nd : (t.up.map (·.1)).Nodup
  st : ∀ n v, lookI t.up n = some v → nx n = some v ∧ v ≠ n
  rt : t.root ≠ -1 → nx t.root = some t.root
theorem TrOk.zero (nx : Int → Option Int) : TrOk nx tr0 := ⟨by simp [tr0], fun n v h => by simp [tr0, lookI] at h, fun h => absurd rfl h⟩
theorem Tr.has_iff {t : Tr} {n : Int} : t.has n = true ↔ (∃ v, lookI t.up n = some v) ∨ (t.root ≠ -1 ∧ n = t.root) := by
  unfold Tr.has Tr.tells
  simp [Option.isSome_iff_exists]
theorem TrOk.has {nx : Int → Option Int} {t : Tr} (h : TrOk nx t) {n : Int} (hn : t.has n = true) : ∃ v, nx n = some v := by
  rcases Tr.has_iff.1 hn with ⟨v, hv⟩ | ⟨h1, rfl⟩
  · exact ⟨v, (h.st _ _ hv).1⟩
  · exact ⟨_, h.rt h1⟩
theorem Tr.has_no {t : Tr} {n : Int} (h : t.has n = false) : lookI t.up n = none ∧ (t.root = -1 ∨ n ≠ t.root) := by
  have h' : ¬ t.has n = true := by rw [h]; simp
  rw [Tr.has_iff] at h'
  refine ⟨?_, ?_⟩
  · cases q : lookI t.up n with
    | none => rfl
    | some v => exact absurd (.inl ⟨v, q⟩) h'
  · by_cases q : t.root = -1
    · exact .inl q
    · exact .inr fun e => h' (.inr ⟨q, e⟩)
theorem TrOk.put {nx : Int → Option Int} {t : Tr} (h : TrOk nx t) {n v : Int} (hn : t.has n = false) (hv : nx n = some v) (hne : v ≠ n) : TrOk nx ⟨t.root, t.up ++ [(n, v)]⟩ := by
  obtain ⟨h1, h2⟩ := Tr.has_no hn
  refine ⟨?_, fun a b hab => ?_, h.rt⟩
  · rw [List.map_append]
    refine List.nodup_append.2 ⟨h.nd, by simp, fun a ha b hb e => ?_⟩
    simp at hb
    subst hb; subst e
    exact lookI_none.1 h1 ha
  · rw [lookI_snoc _ _ _ _ h1] at hab
    by_cases e : a = n
    · rw [if_pos e] at hab
      cases hab
      subst e
      exact ⟨hv, hne⟩
    · rw [if_neg e] at hab
      exact h.st _ _ hab
theorem TrOk.made {nx : Int → Option Int} {t : Tr} (h : TrOk nx t) {n : Int} (hv : nx n = some n) : TrOk nx ⟨n, t.up⟩ := ⟨h.nd, h.st, fun _ => hv⟩
theorem TrOk.walk {nx : Int → Option Int} : ∀ (f : Nat) (t : Tr) (n : Int), TrOk nx t → TrOk nx (walkT nx f t n).2
  | 0, t, n, h => h
  | f + 1, t, n, h => by
    unfold walkT
    cases q : t.has n
    · simp only [Bool.false_eq_true, if_false]
      cases hv : nx n with
      | none => exact h
      | some v =>
        simp only
        by_cases e : v = n
        · rw [if_pos e]
          subst e
          by_cases e2 : t.root = -1
          · rw [if_pos e2]; exact h.made hv
          · rw [if_neg e2]; exact h
        · rw [if_neg e]
          exact TrOk.walk f _ _ (h.put q hv e)
    · simp only [if_true]; exact h
theorem TrOk.of {nx : Int → Option Int} : ∀ (l : List Int) (t : Tr), TrOk nx t → TrOk nx (ofT nx t l).2
  | [], t, h => h
  | n :: l, t, h => by
    unfold ofT
    have := h.walk 66 t n
    split
    · exact TrOk.of l _ this
    · exact this
theorem ofT_cons (nx : Int → Option Int) (t : Tr) (n : Int) (l : List Int) : ofT nx t (n :: l) = if (walkT nx 66 t n).1 = 0 then ofT nx (walkT nx 66 t n).2 l else walkT nx 66 t n := by simp only [ofT]
theorem ofT_nil (nx : Int → Option Int) (t : Tr) : ofT nx t [] = (0, t) := by simp only [ofT]
/-- All of it. -/
def Tr.inT (t : Tr) (n : Int) : Prop := (t.root ≠ -1 ∧ n = t.root) ∨ ∃ v, lookI t.up n = some v
end Go.Proofs.YtmajlldfiiokoaaGreatDoor

/- Trees of those whose ways all end at one. No program in sight. -/
namespace Go.Proofs.YtmajlldfiiokoaaGreatDoor
set_option linter.unusedVariables false

def itr (s : Int → Int) : Nat → Int → Int
  | 0, n => n
  | k + 1, n => itr s k (s n)
theorem itr_out (s : Int → Int) : ∀ (k : Nat) (n : Int), itr s (k + 1) n = s (itr s k n)
  | 0, n => rfl
  | k + 1, n => by show itr s (k + 1) (s n) = _; rw [itr_out s k (s n)]; rfl
theorem itr_fix (s : Int → Int) {r : Int} (h : s r = r) : ∀ k, itr s k r = r
  | 0 => rfl
  | k + 1 => by show itr s k (s r) = r; rw [h]; exact itr_fix s h k
/-- All ways end at one. -/
structure Conv (nx : Int → Option Int) (L : Int → Prop) (s : Int → Int) (r : Int) : Prop where
  nx : ∀ n, L n → nx n = some (s n)
  cl : ∀ n, L n → L (s n)
  fx : ∀ n, L n → s n = n → n = r
  en : ∀ n, L n → ∃ k, k < 60 ∧ itr s k n = r
  rt : s r = r ∧ L r ∧ r ≠ -1
section
variable {nx : Int → Option Int} {L : Int → Prop} {s : Int → Int} {r : Int}
theorem Conv.live (c : Conv nx L s r) {n : Int} (h : L n) : ∀ k, L (itr s k n) := fun k => by
  induction k with
  | zero => exact h
  | succ k ih => rw [itr_out]; exact c.cl _ ih
/-- Whose next one is of the tree, but maybe the one at which the walk stands. -/
def CloE (t : Tr) (cur : Int) : Prop := ∀ a v, lookI t.up a = some v → t.has v = true ∨ v = cur
def Clo (t : Tr) : Prop := ∀ a v, lookI t.up a = some v → t.has v = true
theorem has_inT {t : Tr} {n : Int} : t.has n = true ↔ t.inT n := by
  rw [Tr.has_iff]; unfold Tr.inT; exact Or.comm
structure TrL (nx : Int → Option Int) (L : Int → Prop) (t : Tr) : Prop where
  ok : TrOk nx t
  li : ∀ n, t.inT n → L n
theorem Conv.in_all (c : Conv nx L s r) {t : Tr} (ht : TrL nx L t) (hc : Clo t) {n : Int} (hn : t.inT n) : ∀ k, t.inT (itr s k n) := fun k => by
  induction k with
  | zero => exact hn
  | succ k ih =>
    rw [itr_out]
    rcases ih with ⟨h1, h2⟩ | ⟨v, hv⟩
    · have := ht.ok.rt h1
      rw [← h2] at this
      rw [c.nx _ (ht.li _ (.inl ⟨h1, h2⟩))] at this
      rw [Option.some.inj this]
      exact .inl ⟨h1, h2⟩
    · have h1 := (ht.ok.st _ _ hv).1
      rw [c.nx _ (ht.li _ (.inr ⟨v, hv⟩))] at h1
      rw [Option.some.inj h1]
      exact has_inT.1 (hc _ _ hv)
theorem Conv.root_in (c : Conv nx L s r) {t : Tr} (ht : TrL nx L t) (h : t.inT r) : t.root = r := by
  rcases h with ⟨_, h⟩ | ⟨v, hv⟩
  · exact h.symm
  · have := ht.ok.st _ _ hv
    rw [c.nx _ c.rt.2.1, c.rt.1] at this
    exact absurd (Option.some.inj this.1).symm this.2
theorem Conv.root_is (c : Conv nx L s r) {t : Tr} (ht : TrL nx L t) (h : t.root ≠ -1) : t.root = r := by
  have hl := ht.li _ (.inl ⟨h, rfl⟩)
  have := ht.ok.rt h
  rw [c.nx _ hl] at this
  exact c.fx _ hl (Option.some.inj this)
theorem Conv.walk (c : Conv nx L s r) : ∀ (k f : Nat) (t : Tr) (n : Int), L n → itr s k n = r → k < f → TrL nx L t → CloE t n →
    ∃ t', walkT nx f t n = (0, t') ∧ TrL nx L t' ∧ Clo t' ∧ t'.root = r ∧ ∀ a, t'.inT a ↔ t.inT a ∨ ∃ j, a = itr s j n := by
  intro k
  induction k with
  | zero =>
    intro f t n hn hk hf ht hc
    obtain ⟨f, rfl⟩ : ∃ g, f = g + 1 := ⟨f - 1, by omega⟩
    have hnr : n = r := hk
    subst hnr
    have hs := c.rt.1
    cases hh : t.has n with
    | true =>
      have hi := has_inT.1 hh
      refine ⟨t, by simp [walkT, hh], ht, fun a v hv => (hc a v hv).elim id (fun e => by rw [e]; exact hh), c.root_in ht hi, fun a => ⟨.inl, ?_⟩⟩
      rintro (h | ⟨j, rfl⟩)
      · exact h
      · rw [itr_fix s hs]; exact hi
    | false =>
      have hroot : t.root = -1 := by
        apply Classical.byContradiction
        intro h
        have := has_inT.2 (show t.inT n from .inl ⟨h, (c.root_is ht h).symm⟩)
        rw [hh] at this; cases this
      refine ⟨⟨n, t.up⟩, by simp [walkT, hh, c.nx n hn, hs, hroot], ⟨ht.ok.made (by rw [c.nx n hn, hs]), ?_⟩, fun a v hv => ?_, rfl, fun a => ?_⟩
      · rintro a (⟨_, h2⟩ | ⟨v, hv⟩)
        · rw [h2]; exact hn
        · exact ht.li _ (.inr ⟨v, hv⟩)
      · rcases hc a v hv with h | h
        · rcases Tr.has_iff.1 h with h | ⟨h, _⟩
          · exact Tr.has_iff.2 (.inl h)
          · exact absurd hroot h
        · rw [h]; exact Tr.has_iff.2 (.inr ⟨c.rt.2.2, rfl⟩)
      · constructor
        · rintro (⟨_, h2⟩ | h)
          · exact .inr ⟨0, h2⟩
          · exact .inl (.inr h)
        · rintro (h | ⟨j, rfl⟩)
          · rcases h with ⟨h, _⟩ | h
            · exact absurd hroot h
            · exact .inr h
          · rw [itr_fix s hs]; exact .inl ⟨c.rt.2.2, rfl⟩
  | succ k ih =>
    intro f t n hn hk hf ht hc
    obtain ⟨f, rfl⟩ : ∃ g, f = g + 1 := ⟨f - 1, by omega⟩
    cases hh : t.has n with
    | true =>
      have hi := has_inT.1 hh
      have hcl : Clo t := fun a v hv => (hc a v hv).elim id (fun e => by rw [e]; exact hh)
      have hall := c.in_all ht hcl hi
      refine ⟨t, by simp [walkT, hh], ht, hcl, c.root_in ht (by have := hall (k + 1); rw [hk] at this; exact this), fun a => ⟨.inl, ?_⟩⟩
      rintro (h | ⟨j, rfl⟩)
      · exact h
      · exact hall j
    | false =>
      by_cases hs : s n = n
      · -- it is its own next: it is the one
        have hnr := c.fx n hn hs
        have := itr_fix s hs k
        have hk0 : itr s 0 n = r := hnr
        have hroot : t.root = -1 := by
          apply Classical.byContradiction
          intro h
          have := has_inT.2 (show t.inT n from .inl ⟨h, by rw [c.root_is ht h]; exact hnr⟩)
          rw [hh] at this; cases this
        refine ⟨⟨n, t.up⟩, by simp [walkT, hh, c.nx n hn, hs, hroot], ⟨ht.ok.made (by rw [c.nx n hn, hs]), ?_⟩, fun a v hv => ?_, hnr, fun a => ?_⟩
        · rintro a (⟨_, h2⟩ | ⟨v, hv⟩)
          · rw [h2]; exact hn
          · exact ht.li _ (.inr ⟨v, hv⟩)
        · have hne : n ≠ -1 := by rw [hnr]; exact c.rt.2.2
          rcases hc a v hv with h | h
          · rcases Tr.has_iff.1 h with h | ⟨h, _⟩
            · exact Tr.has_iff.2 (.inl h)
            · exact absurd hroot h
          · rw [h]; exact Tr.has_iff.2 (.inr ⟨hne, rfl⟩)
        · have hne : n ≠ -1 := by rw [hnr]; exact c.rt.2.2
          constructor
          · rintro (⟨_, h2⟩ | h)
            · exact .inr ⟨0, h2⟩
            · exact .inl (.inr h)
          · rintro (h | ⟨j, rfl⟩)
            · rcases h with ⟨h, _⟩ | h
              · exact absurd hroot h
              · exact .inr h
            · rw [itr_fix s hs]; exact .inl ⟨hne, rfl⟩
      · have hno := Tr.has_no hh
        have hlk : ∀ a, lookI (t.up ++ [(n, s n)]) a = if a = n then some (s n) else lookI t.up a := fun a => lookI_snoc _ _ _ _ hno.1
        have hin : ∀ a, (⟨t.root, t.up ++ [(n, s n)]⟩ : Tr).inT a ↔ t.inT a ∨ a = n := fun a => by
          unfold Tr.inT
          simp only [hlk]
          by_cases e : a = n
          · subst e; simp
          · simp [e]
        have ht' : TrL nx L ⟨t.root, t.up ++ [(n, s n)]⟩ := ⟨ht.ok.put hh (c.nx n hn) hs, fun a ha => ((hin a).1 ha).elim (ht.li a) (fun e => by rw [e]; exact hn)⟩
        have hc' : CloE ⟨t.root, t.up ++ [(n, s n)]⟩ (s n) := fun a v hv => by
          simp only [hlk] at hv
          by_cases e : a = n
          · rw [if_pos e] at hv; exact .inr (Option.some.inj hv).symm
          · rw [if_neg e] at hv
            refine .inl (has_inT.2 ((hin v).2 ?_))
            rcases hc a v hv with h | h
            · exact .inl (has_inT.1 h)
            · exact .inr h
        obtain ⟨t', h1, h2, h3, h4, h5⟩ := ih f _ (s n) (c.cl n hn) hk (by omega) ht' hc'
        refine ⟨t', by simp only [walkT, hh, Bool.false_eq_true, if_false, c.nx n hn, if_neg hs]; exact h1, h2, h3, h4, fun a => ?_⟩
        rw [h5, hin]
        constructor
        · rintro ((h | h) | ⟨j, h⟩)
          · exact .inl h
          · exact .inr ⟨0, h⟩
          · exact .inr ⟨j + 1, h⟩
        · rintro (h | ⟨j, h⟩)
          · exact .inl (.inl h)
          · cases j with
            | zero => exact .inl (.inr h)
            | succ j => exact .inr ⟨j, h⟩
theorem Conv.of (c : Conv nx L s r) : ∀ (ms : List Int) (t : Tr), (∀ m ∈ ms, L m) → TrL nx L t → Clo t →
    ∃ t', ofT nx t ms = (0, t') ∧ TrL nx L t' ∧ Clo t' ∧ (ms ≠ [] → t'.root = r) ∧ (ms = [] → t' = t) ∧ ∀ a, t'.inT a ↔ t.inT a ∨ ∃ m ∈ ms, ∃ j, a = itr s j m
  | [], t, _, ht, hc => ⟨t, ofT_nil _ _, ht, hc, fun h => absurd rfl h, fun _ => rfl, fun a => by simp⟩
  | m :: ms, t, hl, ht, hc => by
    obtain ⟨k, hk, hr⟩ := c.en m (hl m (by simp))
    obtain ⟨t1, w1, l1, c1, r1, i1⟩ := c.walk k 66 t m (hl m (by simp)) hr (by omega) ht (fun a v hv => .inl (hc a v hv))
    obtain ⟨t2, w2, l2, c2, r2, e2, i2⟩ := c.of ms t1 (fun x hx => hl x (by simp [hx])) l1 c1
    refine ⟨t2, by rw [ofT_cons, w1, if_pos rfl]; exact w2, l2, c2, fun _ => ?_, fun h => (by cases h), fun a => ?_⟩
    · by_cases h : ms = []
      · rw [e2 h]; exact r1
      · exact r2 h
    · rw [i2, i1]
      constructor
      · rintro ((h | h) | ⟨x, hx, h⟩)
        · exact .inl h
        · exact .inr ⟨m, by simp, h⟩
        · exact .inr ⟨x, by simp [hx], h⟩
      · rintro (h | ⟨x, hx, h⟩)
        · exact .inl (.inl h)
        · rcases List.mem_cons.1 hx with rfl | hx
          · exact .inl (.inr h)
          · exact .inr ⟨x, hx, h⟩
/-- What a tree of members is whose ways all end at one. -/
structure TrIs (nx : Int → Option Int) (s : Int → Int) (r : Int) (ms : List Int) (t : Tr) : Prop where
  ok : TrOk nx t
  root : t.root = if ms = [] then -1 else r
  nodes : ∀ a, t.inT a ↔ ∃ m ∈ ms, ∃ j, a = itr s j m
  up : ∀ a v, lookI t.up a = some v ↔ t.inT a ∧ a ≠ r ∧ v = s a
theorem Conv.zero (nx : Int → Option Int) (L : Int → Prop) : TrL nx L tr0 ∧ Clo tr0 := by
  refine ⟨⟨TrOk.zero nx, ?_⟩, fun a v h => by simp [tr0, lookI] at h⟩
  rintro n (⟨h, _⟩ | ⟨v, h⟩)
  · exact absurd rfl h
  · simp [tr0, lookI] at h
theorem Conv.tree (c : Conv nx L s r) (ms : List Int) (hl : ∀ m ∈ ms, L m) : (treeOf nx ms).1 = 0 ∧ TrIs nx s r ms (treeOf nx ms).2 := by
  obtain ⟨z1, z2⟩ := Conv.zero nx L
  obtain ⟨t, h1, h2, h3, h4, h5, h6⟩ := c.of ms tr0 hl z1 z2
  have hz : ∀ a, ¬ tr0.inT a := by
    rintro a (⟨h, _⟩ | ⟨v, h⟩)
    · exact h rfl
    · simp [tr0, lookI] at h
  have hr : t.root = if ms = [] then -1 else r := by
    by_cases e : ms = []
    · rw [if_pos e, h5 e]; rfl
    · rw [if_neg e]; exact h4 e
  have ht : treeOf nx ms = (0, t) := by
    unfold treeOf
    rw [h1]
    rw [if_neg (by simp), if_neg]
    rintro ⟨p, q⟩
    have : ms ≠ [] := fun e => by rw [e] at p; simp at p
    rw [if_neg this] at hr
    exact c.rt.2.2 (hr ▸ q)
  rw [ht]
  refine ⟨rfl, h2.ok, hr, fun a => by rw [h6]; exact ⟨fun h => h.resolve_left (hz a), .inr⟩, fun a v => ?_⟩
  constructor
  · intro hv
    have hi : t.inT a := .inr ⟨v, hv⟩
    have := h2.ok.st _ _ hv
    rw [c.nx a (h2.li a hi)] at this
    have hsv := Option.some.inj this.1
    refine ⟨hi, fun e => ?_, hsv.symm⟩
    rw [e, c.rt.1] at hsv
    exact this.2 (by rw [e]; exact hsv.symm)
  · rintro ⟨hi, hne, rfl⟩
    rcases hi with ⟨q1, q2⟩ | ⟨v, hv⟩
    · rw [q2] at hne
      exact absurd (c.root_is h2 q1) hne
    · have := h2.ok.st _ _ hv
      rw [c.nx a (h2.li a (.inr ⟨v, hv⟩))] at this
      rw [hv, Option.some.inj this.1]
end
end Go.Proofs.YtmajlldfiiokoaaGreatDoor

/- Maps whatever their keys, as lists of pairs in the order in which they came; look-ups, stores, deletes, and going over one in whatever order. No program in sight. -/
namespace Go.Proofs.YtmajlldfiiokoaaGreatDoor
open Go.RowKit
open Go.ChangeMaps (setBlock)
set_option linter.unusedVariables false

section
variable {κ : Type} [DecidableEq κ]

/-- What a list of pairs says of a key. -/
def lookK (m : List (κ × Value)) (k : κ) : Option Value :=
  match m with
  | [] => none
  | p :: m => if p.1 = k then some p.2 else lookK m k
def fndK (m : List (κ × Value)) (k : κ) (i : Nat) : Option (Nat × Value) :=
  match m with
  | [] => none
  | p :: m => if p.1 = k then some (i, p.2) else fndK m k (i + 1)
theorem fndK_look (m : List (κ × Value)) (k : κ) (i : Nat) : (fndK m k i).map (·.2) = lookK m k := by
  induction m generalizing i with
  | nil => rfl
  | cons p m ih =>
    by_cases h : p.1 = k
    · simp [fndK, lookK, h]
    · simp only [fndK, lookK, h, if_false]; exact ih _
theorem lookK_none {m : List (κ × Value)} {k : κ} : lookK m k = none ↔ k ∉ m.map (·.1) := by
  induction m with
  | nil => simp [lookK]
  | cons p m ih =>
    by_cases h : p.1 = k
    · simp [lookK, h]
    · have : ¬ k = p.1 := fun e => h e.symm
      simp only [lookK, h, if_false, ih, List.map_cons, List.mem_cons, this, false_or]
theorem lookK_some {m : List (κ × Value)} {k : κ} {v : Value} (h : lookK m k = some v) : (k, v) ∈ m := by
  induction m with
  | nil => cases h
  | cons p m ih =>
    by_cases hp : p.1 = k
    · simp only [lookK, hp, if_true, Option.some.injEq] at h
      subst hp; subst h; simp
    · simp only [lookK, hp, if_false] at h
      exact List.mem_cons_of_mem _ (ih h)
theorem lookK_mem {m : List (κ × Value)} (hn : (m.map (·.1)).Nodup) {k : κ} {v : Value} (h : (k, v) ∈ m) : lookK m k = some v := by
  induction m with
  | nil => cases h
  | cons p m ih =>
    obtain ⟨h1, h2⟩ := List.nodup_cons.1 hn
    have h1 : p.1 ∉ m.map (·.1) := h1
    rcases List.mem_cons.1 h with e | h
    · subst e; simp [lookK]
    · have : ¬ p.1 = k := fun e => h1 (by rw [e]; exact List.mem_map.2 ⟨(k, v), h, rfl⟩)
      simp only [lookK, this, if_false]; exact ih h2 h
theorem fndK_spec {m : List (κ × Value)} {k : κ} {i j : Nat} {v : Value} (h : fndK m k i = some (j, v)) : i ≤ j ∧ ∃ hj : j - i < m.length, m[j - i].1 = k ∧ m[j - i].2 = v := by
  induction m generalizing i with
  | nil => cases h
  | cons p m ih =>
    by_cases hp : p.1 = k
    · simp only [fndK, hp, if_true, Option.some.injEq, Prod.mk.injEq] at h
      obtain ⟨rfl, rfl⟩ := h
      exact ⟨Nat.le_refl _, by simp, by simp [hp]⟩
    · simp only [fndK, hp, if_false] at h
      obtain ⟨h1, hj, h2, h3⟩ := ih h
      refine ⟨by omega, by simp; omega, ?_⟩
      have e : j - i = (j - (i + 1)) + 1 := by omega
      simp only [e, List.getElem_cons_succ]
      exact ⟨h2, h3⟩
theorem eraseK_filter {m : List (κ × Value)} (hn : (m.map (·.1)).Nodup) {j : Nat} (hj : j < m.length) : m.eraseIdx j = m.filter (fun p => p.1 ≠ m[j].1) := by
  induction m generalizing j with
  | nil => simp at hj
  | cons p m ih =>
    obtain ⟨h1, h2⟩ := List.nodup_cons.1 hn
    have h1 : p.1 ∉ m.map (·.1) := h1
    cases j with
    | zero =>
      have : m.filter (fun q => decide (q.1 ≠ p.1)) = m := List.filter_eq_self.2 (fun q hq => by
        have : q.1 ≠ p.1 := fun e => h1 (by rw [← e]; exact List.mem_map.2 ⟨q, hq, rfl⟩)
        simpa using this)
      simp only [List.eraseIdx_cons_zero, List.getElem_cons_zero]
      rw [List.filter_cons_of_neg (by simp)]
      exact this.symm
    | succ j =>
      have hj' : j < m.length := by simpa using hj
      have hne : p.1 ≠ m[j].1 := fun e => h1 (by rw [e]; exact List.mem_map.2 ⟨m[j], List.getElem_mem _, rfl⟩)
      simp only [List.eraseIdx_cons_succ, List.getElem_cons_succ]
      rw [List.filter_cons_of_pos (by simpa using hne), ← ih h2 hj']
end
section
variable {κ : Type}
/-- The keys of a type: what a key is as a value, and what the machine does with it. -/
structure KeyT [DecidableEq κ] (P : Program) (K : TypeId) (kv : κ → Value) : Prop where
  find : ∀ (w : World) (k : κ) (es : List MapEntry) (m : List (κ × Value)), es.map (fun e => (e.key, e.val)) = m.map (fun p => (kv p.1, p.2)) → (Instr.findKey K (kv k) es).run P w = .ok (fndK m k 0) w
  check : ∀ (w : World) (b : Bool) (k : κ), (Instr.checkKey b 10000 K (kv k)).run P w = .ok () w
  inj : ∀ a b, kv a = kv b → a = b
/-- A map in a block: its pairs in the order in which they came; the stamps of its entries rise. -/
def MpK (kv : κ → Value) (w : World) (g : Nat) (m : List (κ × Value)) : Prop :=
  (m.map (·.1)).Nodup ∧ ∃ es clock, w.heap[g]? = some (.map es clock) ∧ es.toList.map (fun e => (e.key, e.val)) = m.map (fun p => (kv p.1, p.2)) ∧ es.toList.Pairwise (fun a b => a.born < b.born) ∧ ∀ e ∈ es.toList, e.born < clock
variable {kv : κ → Value}
theorem MpK.of_block {w w' : World} {g : Nat} {m : List (κ × Value)} (h : MpK kv w g m) (hb : w'.heap[g]? = w.heap[g]?) : MpK kv w' g m := by
  obtain ⟨h1, es, c, h2, h3⟩ := h
  exact ⟨h1, es, c, hb.trans h2, h3⟩
theorem MpK.lt {w : World} {g : Nat} {m : List (κ × Value)} (h : MpK kv w g m) : g < w.heap.size := by
  obtain ⟨h1, es, c, h2, h3⟩ := h
  rcases Nat.lt_or_ge g w.heap.size with q | q
  · exact q
  · rw [Array.getElem?_eq_none q] at h2; cases h2
theorem MpK.made (w : World) : MpK kv (w.alloc (.map #[] 0)) w.heap.size [] := ⟨by simp, #[], 0, heap_alloc_new w _, rfl, by simp, by simp⟩
theorem MpK.no_cell {w : World} {g : Nat} {m : List (κ × Value)} (h : MpK kv w g m) (o : Nat) : w.cell? ⟨g, o, none⟩ = none := by
  obtain ⟨h1, es, c, h2, h3⟩ := h
  simp [World.cell?, h2]
section
variable {P : Program} {w : World} {g : Nat} {m : List (κ × Value)} {T K E : TypeId}
theorem MpK.look_some [DecidableEq κ] (h : MpK kv w g m) (hK : KeyT P K kv) (ht : P.underlying T = some (.map K E)) {k : κ} {v : Value} (hv : lookK m k = some v) :
    (Instr.lookup T (.map (some g)) (kv k) true).run P w = .ok (.tuple #[v, .bool true]) w ∧ (Instr.lookup T (.map (some g)) (kv k) false).run P w = .ok v w := by
  obtain ⟨_, es, c, hb, he, _⟩ := h
  have hf := fndK_look m k 0
  rw [hv] at hf
  cases hq : fndK m k 0 with
  | none => rw [hq] at hf; cases hf
  | some x =>
    obtain ⟨j, u⟩ := x
    rw [hq] at hf
    simp at hf
    subst hf
    constructor <;> simp [Instr.lookup, run_underlying ht, MapKept.run_getObj_map hb, hK.check, hK.find w k _ m he, hq, Result.andThen]
theorem MpK.look_none [DecidableEq κ] (h : MpK kv w g m) (hK : KeyT P K kv) (ht : P.underlying T = some (.map K E)) {z : Value} (hz : (zeroValue E).run P w = .ok z w) {k : κ} (hv : lookK m k = none) :
    (Instr.lookup T (.map (some g)) (kv k) true).run P w = .ok (.tuple #[z, .bool false]) w ∧ (Instr.lookup T (.map (some g)) (kv k) false).run P w = .ok z w := by
  obtain ⟨_, es, c, hb, he, _⟩ := h
  have hf := fndK_look m k 0
  rw [hv] at hf
  cases hq : fndK m k 0 with
  | some x => rw [hq] at hf; cases hf
  | none => constructor <;> simp [Instr.lookup, run_underlying ht, MapKept.run_getObj_map hb, hK.check, hK.find w k _ m he, hq, Result.andThen, hz]
theorem setB_get {w : World} {g : Nat} (h : g < w.heap.size) (o : Obj) : (setBlock w g o).heap[g]? = some o := by simp [setBlock, h]
theorem setB_other {w : World} {g b : Nat} (h : b ≠ g) (o : Obj) : (setBlock w g o).heap[b]? = w.heap[b]? := by simp [setBlock, Array.getElem?_setIfInBounds_ne (Ne.symm h)]
theorem setB_size (w : World) (g : Nat) (o : Obj) : (setBlock w g o).heap.size = w.heap.size := by simp [setBlock]
/-- A new key. -/
theorem MpK.put [DecidableEq κ] (h : MpK kv w g m) (hK : KeyT P K kv) (ht : P.underlying T = some (.map K E)) {k : κ} (hv : lookK m k = none) (v : Value) :
    ∃ o, (Instr.mapUpdate T (.map (some g)) (kv k) v).run P w = .ok () (setBlock w g o) ∧ MpK kv (setBlock w g o) g (m ++ [(k, v)]) := by
  have hlt := h.lt
  obtain ⟨hn, es, c, hb, he, hp, hc⟩ := h
  have hf := fndK_look m k 0
  rw [hv] at hf
  cases hq : fndK m k 0 with
  | some x => rw [hq] at hf; cases hf
  | none =>
    refine ⟨.map (es.push { key := kv k, val := v, born := c }) (c + 1), ?_, ?_, es.push { key := kv k, val := v, born := c }, c + 1, setB_get hlt _, ?_, ?_, ?_⟩
    · simp [Instr.mapUpdate, run_underlying ht, MapKept.run_getObj_map hb, hK.check, hK.find w k _ m he, hq, Result.andThen, MapKept.run_setObj_map _ hb, setBlock]
    · rw [List.map_append]
      refine List.nodup_append.2 ⟨hn, by simp, ?_⟩
      intro a ha b hb2
      simp at hb2
      subst hb2
      intro e
      subst e
      exact lookK_none.1 hv ha
    · simp [he]
    · simp only [Array.toList_push]
      refine List.pairwise_append.2 ⟨hp, by simp, fun a ha b hb2 => ?_⟩
      simp at hb2
      subst hb2
      exact hc a ha
    · intro e he2
      simp only [Array.toList_push, List.mem_append, List.mem_singleton] at he2
      rcases he2 with q | q
      · have := hc e q; omega
      · subst q; simp
/-- A key that is there goes. -/
theorem MpK.del [DecidableEq κ] (h : MpK kv w g m) (hK : KeyT P K kv) (ht : P.underlying T = some (.map K E)) (k : κ) (ty ty2 : TypeId) :
    ∃ o, (Builtin.delete_ #[T, ty2] ty #[.map (some g), kv k]).run P w = .ok (.tuple #[]) (setBlock w g o) ∧ MpK kv (setBlock w g o) g (m.filter (fun p => p.1 ≠ k)) := by
  have hlt := h.lt
  obtain ⟨hn, es, c, hb, he, hp, hc⟩ := h
  have hle : es.size = m.length := by have := congrArg List.length he; simpa using this
  have hf := fndK_look m k 0
  cases hq : fndK m k 0 with
  | none =>
    rw [hq] at hf
    have hk := lookK_none.1 hf.symm
    have e : m.filter (fun p => decide (p.1 ≠ k)) = m := List.filter_eq_self.2 (fun p hp => by
      have : p.1 ≠ k := fun e => hk (by rw [← e]; exact List.mem_map.2 ⟨p, hp, rfl⟩)
      simpa using this)
    refine ⟨.map es c, ?_, by rw [e]; exact hn, es, c, setB_get hlt _, by rw [e]; exact he, hp, hc⟩
    simp [Builtin.delete_, run_underlying ht, MapKept.run_getObj_map hb, hK.check, hK.find w k _ m he, hq, Result.andThen, MapKept.run_setObj_map _ hb, setBlock]
  | some x =>
    obtain ⟨j, u⟩ := x
    obtain ⟨_, hj, h1, h2⟩ := fndK_spec hq
    simp only [Nat.sub_zero] at hj h1
    have hjs : j < es.size := by omega
    have e : m.filter (fun p => decide (p.1 ≠ k)) = m.eraseIdx j := by rw [eraseK_filter hn hj, h1]
    have hl : (es.eraseIdxIfInBounds j).toList = es.toList.eraseIdx j := by simp [Array.eraseIdxIfInBounds, hjs]
    refine ⟨.map (es.eraseIdxIfInBounds j) c, ?_, ?_, es.eraseIdxIfInBounds j, c, setB_get hlt _, ?_, ?_, ?_⟩
    · simp [Builtin.delete_, run_underlying ht, MapKept.run_getObj_map hb, hK.check, hK.find w k _ m he, hq, Result.andThen, MapKept.run_setObj_map _ hb, setBlock]
    · exact hn.sublist (List.Sublist.map _ (List.filter_sublist))
    · rw [hl, e, Go.ChangeMaps.map_eraseIdx, Go.ChangeMaps.map_eraseIdx, he]
    · rw [hl]; exact hp.sublist (List.eraseIdx_sublist _ _)
    · intro e2 he2
      rw [hl] at he2
      exact hc e2 (List.mem_of_mem_eraseIdx he2)
theorem MpK.len (h : MpK kv w g m) (ht : P.underlying T = some (.map K E)) (ty : TypeId) : (Builtin.len_ #[T] ty #[.map (some g)]).run P w = .ok (.int .i64 m.length) w := by
  obtain ⟨hn, es, c, hb, he, hp, hc⟩ := h
  have hle : es.size = m.length := by have := congrArg List.length he; simpa using this
  simp [Builtin.len_, run_underlying ht, MapKept.run_getObj_map hb, goInt, hle, Result.andThen]
/-- Going over a map: D has the keys that came already. -/
structure ItK (kv : κ → Value) (w : World) (g r : Nat) (m : List (κ × Value)) (D : List κ) : Prop where
  nodup : (m.map (·.1)).Nodup
  ne : r ≠ g
  ex : ∃ es clock since seen c0, w.heap[g]? = some (.map es clock) ∧ w.heap[r]? = some (.mapIter (some g) since seen c0) ∧ es.toList.map (fun e => (e.key, e.val)) = m.map (fun p => (kv p.1, p.2)) ∧
    es.toList.Pairwise (fun a b => a.born < b.born) ∧ (∀ e ∈ es.toList, e.born < clock) ∧ (∀ e ∈ es.toList, e.born < since) ∧ since ≤ c0 ∧ since ≤ clock ∧
    ∀ (i : Nat) (hi : i < es.toList.length) (hm : i < m.length), seen.contains es.toList[i].born = true ↔ m[i].1 ∈ D
theorem ItK.mp {r : Nat} {D : List κ} (h : ItK kv w g r m D) : MpK kv w g m := by
  obtain ⟨hn, _, es, clock, since, seen, c0, h1, h2, h3, h4, h5, _⟩ := h
  exact ⟨hn, es, clock, h1, h3, h4, h5⟩
theorem ItK.of_blocks {w' : World} {r : Nat} {D : List κ} (h : ItK kv w g r m D) (hg : w'.heap[g]? = w.heap[g]?) (hr : w'.heap[r]? = w.heap[r]?) : ItK kv w' g r m D := by
  obtain ⟨hn, ne, es, clock, since, seen, c0, h1, h2, h3⟩ := h
  exact ⟨hn, ne, es, clock, since, seen, c0, hg.trans h1, hr.trans h2, h3⟩
theorem ItK.lt {r : Nat} {D : List κ} (h : ItK kv w g r m D) : r < w.heap.size := by
  obtain ⟨hn, ne, es, clock, since, seen, c0, h1, h2, h3⟩ := h
  rcases Nat.lt_or_ge r w.heap.size with q | q
  · exact q
  · rw [Array.getElem?_eq_none q] at h2; cases h2
/-- It begins. -/
theorem MpK.start (h : MpK kv w g m) (ht : P.underlying T = some (.map K E)) : ∃ o, (Instr.range T (.map (some g))).run P w = .ok (.pointer (some ⟨w.heap.size, 0, none⟩)) (w.alloc o) ∧ ItK kv (w.alloc o) g w.heap.size m [] := by
  have hlt := h.lt
  obtain ⟨hn, es, c, hb, he, hp, hc⟩ := h
  refine ⟨.mapIter (some g) c #[] c, ?_, hn, by omega, es, c, c, #[], c, ?_, heap_alloc_new w _, he, hp, hc, hc, Nat.le_refl _, Nat.le_refl _, fun i hi hm => by simp⟩
  · simp [Instr.range, run_underlying ht, MapKept.run_getObj_map hb, Result.andThen, newObj]
    rfl
  · rw [Below.heap_alloc _ _ _ hlt]; exact hb
theorem map_at {es : List MapEntry} (he : es.map (fun e => (e.key, e.val)) = m.map (fun p => (kv p.1, p.2))) {i : Nat} (hi : i < es.length) (hm : i < m.length) : es[i].key = kv m[i].1 ∧ es[i].val = m[i].2 := by
  have := congrArg (fun l : List (Value × Value) => l[i]?) he
  simp [hi, hm] at this
  exact this
theorem born_inj {es : List MapEntry} (hp : es.Pairwise (fun a b => a.born < b.born)) {i j : Nat} (hi : i < es.length) (hj : j < es.length) (e : es[i].born = es[j].born) : i = j := by
  rcases Nat.lt_trichotomy i j with q | q | q
  · have := (List.pairwise_iff_getElem.1 hp) i j hi hj q; omega
  · exact q
  · have := (List.pairwise_iff_getElem.1 hp) j i hj hi q; omega
/-- The next step: all came, or one that did not comes. -/
theorem ItK.next {r : Nat} {D : List κ} (h : ItK kv w g r m D) :
    ((∀ p ∈ m, p.1 ∈ D) ∧ ∀ ty, (Instr.next (.pointer (some ⟨r, 0, none⟩)) false ty).run P w = .ok (.tuple #[.bool false]) w) ∨
    ∃ k v w', (k, v) ∈ m ∧ k ∉ D ∧ (∀ ty, (Instr.next (.pointer (some ⟨r, 0, none⟩)) false ty).run P w = .ok (.tuple #[.bool true, kv k, v]) w') ∧ ItK kv w' g r m (D ++ [k]) ∧
      (Instr.entry (.pointer (some ⟨r, 0, none⟩))).run P w' = .ok (.tuple #[kv k, v]) w' ∧ (∃ w1 o, (w1 = w ∨ w1 = w.drew) ∧ w' = setBlock w1 r o) := by
  have hlt := h.lt
  obtain ⟨hn, ne, es, clock, since, seen, c0, hb, hr, he, hp, hc, hs, s1, s2, hd⟩ := h
  have hle : es.toList.length = m.length := by have := congrArg List.length he; simpa using this
  have hnb : (es.toList.map (·.born)).Nodup := by
    refine List.pairwise_map.2 (hp.imp (fun {a b} q => ?_))
    show a.born ≠ b.born
    omega
  rcases run_next_at (P := P) w 0 r g since c0 seen es clock hr hb hs s1 with ⟨h0, hrun⟩ | ⟨e, hmem, w1, hw1, hrun⟩
  · refine .inl ⟨fun p hpm => ?_, fun ty => hrun⟩
    obtain ⟨i, hi, rfl⟩ := List.getElem_of_mem hpm
    have hi' : i < es.toList.length := by omega
    refine (hd i hi' hi).1 ?_
    cases hcn : seen.contains es.toList[i].born with
    | true => rfl
    | false =>
      exfalso
      have : es.toList[i] ∈ (leftOf es seen).toList := by
        unfold leftOf
        simp only [Array.toList_filter, List.mem_filter]
        exact ⟨List.getElem_mem _, by rw [hcn]; rfl⟩
      have hz : (leftOf es seen).toList.length = 0 := by simpa using h0
      rw [List.eq_nil_of_length_eq_zero hz] at this
      cases this
  · right
    obtain ⟨h1, h2⟩ := mem_left hmem
    obtain ⟨i, hi, rfl⟩ := List.getElem_of_mem h1
    have him : i < m.length := by omega
    obtain ⟨ek, ev⟩ := map_at he hi him
    have hkD : m[i].1 ∉ D := fun q => by
      have := (hd i hi him).2 q
      rw [h2] at this; cases this
    have hw1b : ∀ b, w1.heap[b]? = w.heap[b]? := fun (b : Nat) => by rcases hw1 with e | e <;> rw [e] <;> rfl
    have hw1s : w1.heap.size = w.heap.size := by rcases hw1 with e | e <;> rw [e] <;> rfl
    have hr1 : (setBlock w1 r (.mapIter (some g) since (seen.push es.toList[i].born) clock)).heap[r]? = some (.mapIter (some g) since (seen.push es.toList[i].born) clock) := setB_get (by omega) _
    have hb1 : (setBlock w1 r (.mapIter (some g) since (seen.push es.toList[i].born) clock)).heap[g]? = some (.map es clock) := by
      rw [setB_other (Ne.symm ne), hw1b]; exact hb
    refine ⟨m[i].1, m[i].2, _, List.getElem_mem _, hkD, ?_, ⟨hn, ne, es, clock, since, seen.push es.toList[i].born, clock, hb1, hr1, he, hp, hc, hs, s2, s2, ?_⟩, ?_, w1, _, hw1, rfl⟩
    · intro ty; rw [← ek, ← ev]; exact hrun
    · intro j hj hjm
      rw [List.mem_append, List.mem_singleton]
      have hcp : (seen.push es.toList[i].born).contains es.toList[j].born = true ↔ (seen.contains es.toList[j].born = true ∨ es.toList[j].born = es.toList[i].born) := by
        simp
      rw [hcp, hd j hj hjm]
      constructor
      · rintro (q | q)
        · exact .inl q
        · have := born_inj hp hj hi q
          subst this; exact .inr rfl
      · rintro (q | q)
        · exact .inl q
        · have : j = i := by
            have hnm : (m.map (·.1)).Nodup := hn
            have h3 : (m.map (·.1))[j]'(by simpa using hjm) = (m.map (·.1))[i]'(by simpa using him) := by simpa using q
            exact (List.getElem_inj hnm).1 h3
          subst this; exact .inr rfl
    · rw [← ek, ← ev]
      exact run_entry_at _ r g since seen es clock es.toList[i] hr1 hb1 h1 hnb
/-- One that came goes, while it is gone over. -/
theorem ItK.del [DecidableEq κ] {r : Nat} {D : List κ} (h : ItK kv w g r m D) (hK : KeyT P K kv) (ht : P.underlying T = some (.map K E)) {k : κ} (hk : k ∈ D) (ty ty2 : TypeId) :
    ∃ o, (Builtin.delete_ #[T, ty2] ty #[.map (some g), kv k]).run P w = .ok (.tuple #[]) (setBlock w g o) ∧ ItK kv (setBlock w g o) g r (m.filter (fun p => p.1 ≠ k)) D := by
  have hlt := h.mp.lt
  obtain ⟨hn, ne, es, clock, since, seen, c0, hb, hr, he, hp, hc, hs, s1, s2, hd⟩ := h
  have hle : es.size = m.length := by have := congrArg List.length he; simpa using this
  have hle2 : es.toList.length = m.length := by simpa using hle
  have hf := fndK_look m k 0
  cases hq : fndK m k 0 with
  | none =>
    rw [hq] at hf
    have hk2 := lookK_none.1 hf.symm
    have e : m.filter (fun p => decide (p.1 ≠ k)) = m := List.filter_eq_self.2 (fun p hp => by
      have : p.1 ≠ k := fun e => hk2 (by rw [← e]; exact List.mem_map.2 ⟨p, hp, rfl⟩)
      simpa using this)
    refine ⟨.map es clock, ?_, ?_⟩
    · simp [Builtin.delete_, run_underlying ht, MapKept.run_getObj_map hb, hK.check, hK.find w k _ m he, hq, Result.andThen, MapKept.run_setObj_map _ hb, setBlock]
    · rw [e]
      exact ⟨hn, ne, es, clock, since, seen, c0, setB_get hlt _, by rw [setB_other ne]; exact hr, he, hp, hc, hs, s1, s2, hd⟩
  | some x =>
    obtain ⟨j, u⟩ := x
    obtain ⟨_, hj, h1, h2⟩ := fndK_spec hq
    simp only [Nat.sub_zero] at hj h1
    have hjs : j < es.size := by omega
    have e : m.filter (fun p => decide (p.1 ≠ k)) = m.eraseIdx j := by rw [eraseK_filter hn hj, h1]
    have hl : (es.eraseIdxIfInBounds j).toList = es.toList.eraseIdx j := by simp [Array.eraseIdxIfInBounds, hjs]
    refine ⟨.map (es.eraseIdxIfInBounds j) clock, ?_, ?_⟩
    · simp [Builtin.delete_, run_underlying ht, MapKept.run_getObj_map hb, hK.check, hK.find w k _ m he, hq, Result.andThen, MapKept.run_setObj_map _ hb, setBlock]
    · rw [e]
      refine ⟨?_, ne, es.eraseIdxIfInBounds j, clock, since, seen, c0, setB_get hlt _, by rw [setB_other ne]; exact hr, ?_, ?_, ?_, ?_, s1, s2, ?_⟩
      · exact hn.sublist (List.Sublist.map _ (List.eraseIdx_sublist _ _))
      · rw [hl, Go.ChangeMaps.map_eraseIdx, Go.ChangeMaps.map_eraseIdx, he]
      · rw [hl]; exact hp.sublist (List.eraseIdx_sublist _ _)
      · intro e2 he2; rw [hl] at he2; exact hc e2 (List.mem_of_mem_eraseIdx he2)
      · intro e2 he2; rw [hl] at he2; exact hs e2 (List.mem_of_mem_eraseIdx he2)
      · intro i hi hm
        rw [hl] at hi
        have hi2 : i < (es.toList.eraseIdx j).length := hi
        have hm2 : i < (m.eraseIdx j).length := hm
        rw [List.length_eraseIdx] at hi2 hm2
        simp only [hl]
        rw [List.getElem_eraseIdx, List.getElem_eraseIdx]
        split at hi2
        · split
          · exact hd i (by omega) (by omega)
          · exact hd (i + 1) (by omega) (by omega)
        · rename_i q; exact absurd (by simpa using hjs) q
end
end
end Go.Proofs.YtmajlldfiiokoaaGreatDoor

/- tree.Tree in memory: whom a node tells; how deep a node is. -/
namespace Go.Proofs.YtmajlldfiiokoaaGreatDoor
open Go.ChangeShapes Go.WideShapes Go.ChangeAt Go.RowKit Go.Deep
open Go.ChangeMaps (setBlock)
set_option linter.unusedVariables false

def kvI (k : Int) : Value := .int .i64 k
theorem findNow_intK (q : IntKind) (k : Int) : ∀ (es : List MapEntry) (m : List (Int × Value)) (i : Nat), es.map (fun e => (e.key, e.val)) = m.map (fun p => (kvI p.1, p.2)) → Instr.findNow (.int q) (.int .i64 k) es i = some (fndK m k i)
  | [], [], _, _ => rfl
  | [], _ :: _, _, h => by simp at h
  | _ :: _, [], _, h => by simp at h
  | e :: es, p :: m, i, h => by
    simp only [List.map_cons, List.cons.injEq] at h
    obtain ⟨h1, h2⟩ := h
    have hk : e.key = .int .i64 p.1 := congrArg Prod.fst h1
    have hv : e.val = p.2 := congrArg Prod.snd h1
    have ih := findNow_intK q k es m (i + 1) h2
    by_cases hp : p.1 = k
    · simp [Instr.findNow, Instr.sameNow, hk, fndK, hp, hv]
    · have hp' : ¬ k = p.1 := fun e => hp e.symm
      have e1 : (k == p.1) = false := by simpa using hp'
      simp only [Instr.findNow, Instr.sameNow, hk, fndK, e1, hp, if_true, if_false]
      simpa using ih
theorem key_int : KeyT Tryz.prog 3 kvI :=
  ⟨fun w k es m h => by
    have hn := findNow_intK .i64 k es m 0 h
    simp [Instr.findKey, run_underlying Tryz.underlying3, kvI, hn, Result.andThen], fun w b k => by unfold kvI; kernel_rfl, fun a b h => by simpa [kvI] using h⟩
def upV (m : List (Int × Int)) : List (Int × Value) := m.map fun p => (p.1, .int .i64 p.2)
theorem look_upV (m : List (Int × Int)) (k : Int) : lookK (upV m) k = (lookI m k).map (Value.int .i64) := by
  induction m with
  | nil => rfl
  | cons p m ih =>
    unfold upV at ih ⊢
    by_cases h : p.1 = k
    · simp [lookK, lookI, h]
    · simp only [List.map_cons, lookK, lookI, h, if_false]; exact ih
theorem upV_keys (m : List (Int × Int)) : (upV m).map (·.1) = m.map (·.1) := by simp [upV, Function.comp_def]
theorem upV_mem {m : List (Int × Int)} {k : Int} {x : Value} (h : (k, x) ∈ upV m) : ∃ v, x = .int .i64 v ∧ (k, v) ∈ m := by
  obtain ⟨p, hp, e⟩ := List.mem_map.1 h
  simp at e
  obtain ⟨rfl, rfl⟩ := e
  exact ⟨p.2, rfl, hp⟩
/-- Who tells whom, in memory. -/
abbrev UpAt (w : World) (g : Nat) (m : List (Int × Int)) : Prop := MpK kvI w g (upV m)
theorem zero_int (w : World) : (zeroValue 3).run Tryz.prog w = .ok (.int .i64 0) w := by kernel_rfl
theorem UpAt.ask {w : World} {g : Nat} {m : List (Int × Int)} (h : UpAt w g m) (n : Int) :
    (Instr.lookup 41 (.map (some g)) (.int .i64 n) true).run Tryz.prog w = .ok (.tuple #[.int .i64 ((lookI m n).getD 0), .bool (lookI m n).isSome]) w ∧
    (Instr.lookup 41 (.map (some g)) (.int .i64 n) false).run Tryz.prog w = .ok (.int .i64 ((lookI m n).getD 0)) w := by
  cases hq : lookI m n with
  | none =>
    have := h.look_none (P := Tryz.prog) key_int Tryz.underlying41 (zero_int w) (k := n) (by rw [look_upV, hq]; rfl)
    simpa [kvI] using this
  | some v =>
    have := h.look_some (P := Tryz.prog) key_int Tryz.underlying41 (k := n) (v := .int .i64 v) (by rw [look_upV, hq]; rfl)
    simpa [kvI] using this
theorem UpAt.below {w w' : World} {g : Nat} {m : List (Int × Int)} (h : UpAt w g m) (hb : Below w.heap.size w w') : UpAt w' g m := h.of_block (hb.block _ h.lt)

end Go.Proofs.YtmajlldfiiokoaaGreatDoor

/- What ring.Hash and the document's Hash answer: one and the same number. -/
namespace Go.Proofs.YtmajlldfiiokoaaGreatDoor
set_option linter.unusedVariables false
open Go.ChangeShapes Go.WideShapes Go.ChangeAt Go.RowKit

def hstep (h : Int) (c : UInt8) : Int :=
  bits .xor .u64 (IntKind.u64.wrap (bits .xor .u64 h (IntKind.u64.wrap c.toNat) * 18397679294719823053)) (IntKind.u64.wrap (bits .xor .u64 h (IntKind.u64.wrap c.toNat) * 18397679294719823053) / 4294967296)
def hashTo (n : Nat) (l : List UInt8) : Int := l.foldl hstep (bits .xor .u64 11400714819323198485 n)
def hend (h : Int) : Int :=
  bits .xor .u64 (IntKind.u64.wrap (h * 14181476777654086739)) (IntKind.u64.wrap (h * 14181476777654086739) / 536870912)
def hashN (s : ByteArray) : Int := hend (hashTo s.size s.data.toList)

theorem hashTo_snoc (s : ByteArray) (k : Nat) (h : k < s.size) : hashTo s.size (s.data.toList.take (k + 1)) = hstep (hashTo s.size (s.data.toList.take k)) s[k] := by
  rw [take_snoc s k h, hashTo, List.foldl_append]; rfl

theorem hashTo_all (s : ByteArray) (k : Nat) (h : ¬ k < s.size) : hend (hashTo s.size (s.data.toList.take k)) = hashN s := by
  rw [List.take_of_length_le (by simpa using h)]; rfl

theorem hash_any (s : ByteArray) (w : World) (hs : s.size ≤ 300) :
    Calls Tryz.prog 78 #[.string s] w fun e w' => e = .returned (.int .u64 (hashN s)) ∧ w' = w := by
  go_enter Tryz.func78, Tryz.ntmps78
  go_wp2
  go_loop [3, 11] (fun h i => ∃ k : Nat, k ≤ s.size ∧ i = .int .i64 k ∧ h = .int .u64 (hashTo s.size (s.data.toList.take k))) (fun _ i => s.size - (intOf i).toNat)
  case atStart => exact ⟨0, Nat.zero_le _, rfl, rfl⟩
  case round =>
    obtain ⟨k, hk, rfl, rfl⟩ := hrel
    by_cases hlt : k < s.size
    · have H : Hid (hashTo s.size (s.data.toList.take (k + 1)) = hstep (hashTo s.size (s.data.toList.take k)) s[k]) := hashTo_snoc s k hlt
      go_wp2
      go_round
      case rel => exact ⟨k + 1, by omega, by go_num, int_eq H.out.symm⟩
      case measure => simp [intOf]; omega
    · have H : Hid (hend (hashTo s.size (s.data.toList.take k)) = hashN s) := hashTo_all s k hlt
      go_wp2
      go_ret
      exact ⟨ret_i H.out, rfl⟩

end Go.Proofs.YtmajlldfiiokoaaGreatDoor

/- tree.growth: walk; tree.Of. -/
namespace Go.Proofs.YtmajlldfiiokoaaGreatDoor
open Go.ChangeShapes Go.WideShapes Go.ChangeAt Go.RowKit Go.Deep
open Go.ChangeMaps (setBlock)
set_option linter.unusedVariables false

/-- A tree that is being made, in memory. -/
structure GwAt (w : World) (q g : Nat) (t : Tr) (wk : Value) (x : Int) : Prop where
  box : w.heap[q]? = some (.cells #[.int .i64 t.root, .map (some g), wk, .int .u64 x, .bool (t.root != -1)] 115 (0, 0))
  up : UpAt w g t.up
theorem GwAt.ne {w : World} {q g : Nat} {t : Tr} {wk : Value} {x : Int} (h : GwAt w q g t wk x) : q ≠ g := fun e => by
  obtain ⟨_, es, c, hb, _⟩ := h.up
  have := h.box
  rw [e, hb] at this
  cases this
theorem GwAt.below {w w' : World} {q g : Nat} {t : Tr} {wk : Value} {x : Int} (h : GwAt w q g t wk x) (hb : Below w.heap.size w w') : GwAt w' q g t wk x :=
  ⟨(hb.block _ (lt_of_block h.box)).trans h.box, h.up.below hb⟩
theorem GwAt.cells {w : World} {q g : Nat} {t : Tr} {wk : Value} {x : Int} (h : GwAt w q g t wk x) :
    w.cell? ⟨q, 0, none⟩ = some (.int .i64 t.root) ∧ w.cell? ⟨q, 1, none⟩ = some (.map (some g)) ∧ w.cell? ⟨q, 2, none⟩ = some wk ∧ w.cell? ⟨q, 3, none⟩ = some (.int .u64 x) ∧ w.cell? ⟨q, 4, none⟩ = some (.bool (t.root != -1)) ∧ q < w.heap.size ∧ ∀ o, w.frozen? ⟨q, o, none⟩ = false := by
  have hb := h.box
  refine ⟨by simp [World.cell?, hb], by simp [World.cell?, hb], by simp [World.cell?, hb], by simp [World.cell?, hb], by simp [World.cell?, hb], lt_of_block hb, fun o => by simp [World.frozen?, hb]⟩
end Go.Proofs.YtmajlldfiiokoaaGreatDoor

/- slices.Sort, slices.Compact of a row of ints of one's own. -/
namespace Go.Proofs.YtmajlldfiiokoaaGreatDoor
open Go.ChangeShapes Go.WideShapes Go.ChangeAt Go.RowKit Go.Deep
set_option linter.unusedVariables false

theorem le_sorted (l : List Int) : (l.mergeSort fun x y => decide (x ≤ y)).Pairwise (· ≤ ·) := by
  have := List.pairwise_mergeSort (le := fun x y : Int => decide (x ≤ y)) (fun a b c h1 h2 => by simp at *; omega) (fun a b => by simp; omega) l
  exact this.imp (fun h => by simpa using h)

/-- slices.Sort of a row of one's own. -/
theorem sort_own (B : Nat) (wr : World) (a : Option Addr) (n c : Nat) (l : List Int) (h : wr.ownsRow B 3 1 (.slice a n c) n (l.map cellI)) (hn : n ≤ 1000000) :
    Calls Tryz.prog 55 #[.slice a n c] wr fun e w' => e = .returned (.tuple #[]) ∧ ∃ l' : List Int, l'.Perm l ∧ l'.Pairwise (· ≤ ·) ∧ w'.ownsRow B 3 1 (.slice a n c) n (l'.map cellI) ∧ wr.grownBy w' (Value.ownBlock (.slice a n c)) := by
  have hl : l.length = n := by have := h.1; simpa using this
  rcases h.2 with ⟨hv, h0⟩ | ⟨g, cap, cur, hv, hB, hg, hnc, hcm, hcs, ht⟩
  · have hL : l = [] := List.eq_nil_of_length_eq_zero (by omega)
    subst hL
    subst h0
    refine (Tryz.slices_Sort_int_none a c wr).mono ?_
    rintro e w' ⟨rfl, hw'⟩
    subst w'
    exact ⟨rfl, [], List.Perm.refl _, List.Pairwise.nil, h, ⟨rfl, rfl, rfl, Nat.le_refl _, fun _ _ _ => rfl⟩⟩
  · simp only [Value.slice.injEq] at hv
    obtain ⟨rfl, _, rfl⟩ := hv
    subst hl
    have ht' : cur.toList.take l.length = l.map (Value.int .i64) := by rw [Nat.mul_one] at ht; exact ht
    have hh := holds_of_blockI (ss := l) hg ht'
    refine (Tryz.slices_Sort_int g 0 c l wr hh (lt_of_block hg) (by omega)).mono ?_
    rintro e w' ⟨rfl, q, os, rfl⟩
    have hpm : (l.mergeSort fun x y => decide (x ≤ y)).Perm l := List.mergeSort_perm l _
    exact ⟨rfl, l.mergeSort fun x y => decide (x ≤ y), hpm, le_sorted l, ownsRow_sortedI hpm.length_eq hB hg hnc hcm hcs, grownBy_sortedI _⟩
end Go.Proofs.YtmajlldfiiokoaaGreatDoor

/- tree.Tree.Nodes, Children: going over who tells whom, a row of one's own beside it. -/
namespace Go.Proofs.YtmajlldfiiokoaaGreatDoor
open Go.ChangeShapes Go.WideShapes Go.ChangeAt Go.RowKit Go.Deep
open Go.ChangeMaps (setBlock)
set_option linter.unusedVariables false

/-- A slice of ints that is an answer. -/
structure SlI (w : World) (v : Value) (l : List Int) : Prop where
  ex : ∃ a c, v = .slice a l.length c ∧ InIn w a l.length l ∧ (a = none → l.length = 0) ∧ l.length ≤ c ∧ c ≤ 9223372036854775807
theorem SlI.below {w w' : World} {v : Value} {l : List Int} (h : SlI w v l) (hb : Below w.heap.size w w') : SlI w' v l := by
  obtain ⟨a, c, h1, h2, h3⟩ := h.ex
  exact ⟨a, c, h1, h2.below (Nat.le_refl _) hb, h3⟩
/-- On the way: D came already; L lies in the row. -/
structure NdSt (W wr : World) (B g r : Nat) (m : List (Int × Int)) (P : Int → Bool) (l0 D L : List Int) (v : Value) : Prop where
  it : ItK kvI wr g r (upV m) D
  bel : Below W.heap.size W wr
  lo : W.heap.size ≤ r ∧ W.heap.size ≤ B
  row : wr.ownsRow B 3 1 v L.length (L.map cellI)
  off : ∀ x, v.ownBlock = some x → x ≠ r
  dn : D.Nodup
  dm : ∀ k ∈ D, k ∈ m.map (·.1)
  ls : L = l0 ++ D.filter P
theorem NdSt.le {W wr : World} {B g r : Nat} {m : List (Int × Int)} {P : Int → Bool} {l0 D L : List Int} {v : Value} (h : NdSt W wr B g r m P l0 D L v) : L.length ≤ l0.length + m.length := by
  have h2 := nodup_le D (m.map (·.1)) h.dn h.dm
  have h3 := List.length_filter_le P D
  rw [List.length_map] at h2
  rw [h.ls, List.length_append]
  omega
theorem NdSt.lt {W wr : World} {B g r : Nat} {m : List (Int × Int)} {P : Int → Bool} {l0 D L : List Int} {v : Value} (h : NdSt W wr B g r m P l0 D L v) {k : Int} (hm : k ∈ m.map (·.1)) (hk : k ∉ D) : D.length < m.length := by
  have h2 := nodup_le (D ++ [k]) (m.map (·.1)) (List.nodup_append.2 ⟨h.dn, by simp, fun a ha b hb e => by simp at hb; subst hb; subst e; exact hk ha⟩) (fun x hx => by
    rcases List.mem_append.1 hx with q | q
    · exact h.dm x q
    · simp at q; subst q; exact hm)
  simp at h2
  omega
theorem setB_below {w W : World} {B g : Nat} (h : Below B w W) (hg : B ≤ g) (o : Obj) : Below B w (setBlock W g o) :=
  ⟨h.os, h.tape, h.output, by rw [setB_size]; exact h.size, fun b hb => (setB_other (by omega) o).trans (h.block b hb)⟩
theorem row_at {w w' : World} {B : Nat} {e : TypeId} {k n : Nat} {vs : Value} {xs : List Value} (h : w.ownsRow B e k vs n xs) (hb : ∀ x, vs.ownBlock = some x → w'.heap[x]? = w.heap[x]?) : w'.ownsRow B e k vs n xs := by
  refine ⟨h.1, ?_⟩
  rcases h.2 with h1 | ⟨g, cap, cur, hv, hbg, hg, hr⟩
  · exact .inl h1
  · exact .inr ⟨g, cap, cur, hv, hbg, (hb g (by rw [hv]; rfl)).trans hg, hr⟩
/-- One more comes. -/
structure NdMid (W wr w5 : World) (B g r : Nat) (m : List (Int × Int)) (P : Int → Bool) (l0 D L : List Int) (v : Value) (k : Int) : Prop where
  it : ItK kvI w5 g r (upV m) (D ++ [k])
  bel : Below W.heap.size W w5
  row : w5.ownsRow B 3 1 v L.length (L.map cellI)
  big : w5.heap.size = wr.heap.size
  mem : k ∈ m.map (·.1)
  out : k ∉ D
theorem NdSt.next {W wr : World} {B g r : Nat} {m : List (Int × Int)} {P : Int → Bool} {l0 D L : List Int} {v : Value} (h : NdSt W wr B g r m P l0 D L v) :
    ((∀ k ∈ m.map (·.1), k ∈ D) ∧ ∀ ty, (Instr.next (.pointer (some ⟨r, 0, none⟩)) false ty).run Tryz.prog wr = .ok (.tuple #[.bool false]) wr) ∨
    ∃ k x w5, lookI m k = some x ∧ (∀ ty, (Instr.next (.pointer (some ⟨r, 0, none⟩)) false ty).run Tryz.prog wr = .ok (.tuple #[.bool true, .int .i64 k, .int .i64 x]) w5) ∧
      (Instr.entry (.pointer (some ⟨r, 0, none⟩))).run Tryz.prog w5 = .ok (.tuple #[.int .i64 k, .int .i64 x]) w5 ∧ NdMid W wr w5 B g r m P l0 D L v k := by
  rcases h.it.next (P := Tryz.prog) with ⟨hall, hrun⟩ | ⟨k, x, w5, hkm, hkD, hrun, hit5, hent, w5', o5, hw5', hw5⟩
  · refine .inl ⟨fun k hk => ?_, hrun⟩
    rw [← upV_keys] at hk
    obtain ⟨p, hp, rfl⟩ := List.mem_map.1 hk
    exact hall p hp
  · obtain ⟨y, rfl, hy⟩ := upV_mem hkm
    have hnd : (m.map (·.1)).Nodup := by rw [← upV_keys]; exact h.it.nodup
    have hsz : w5.heap.size = wr.heap.size := by rw [hw5, setB_size]; rcases hw5' with rfl | rfl <;> rfl
    refine .inr ⟨k, y, w5, lookI_mem hnd hy, hrun, hent, hit5, ?_, ?_, hsz, List.mem_map.2 ⟨_, hy, rfl⟩, hkD⟩
    · rw [hw5]
      refine setB_below ?_ h.lo.1 _
      rcases hw5' with rfl | rfl
      · exact h.bel
      · exact h.bel.trans (show Below W.heap.size wr wr.drew from ⟨rfl, rfl, rfl, Nat.le_refl _, fun _ _ => rfl⟩)
    · refine row_at h.row (fun z hz => ?_)
      rw [hw5, setB_other (h.off z hz)]
      rcases hw5' with rfl | rfl <;> rfl
theorem NdSt.skip {W wr w5 : World} {B g r : Nat} {m : List (Int × Int)} {P : Int → Bool} {l0 D L : List Int} {v : Value} (h : NdSt W wr B g r m P l0 D L v) {k : Int} (q : NdMid W wr w5 B g r m P l0 D L v k) (hP : P k = false) : NdSt W w5 B g r m P l0 (D ++ [k]) L v := by
  refine ⟨q.it, q.bel, h.lo, q.row, h.off, List.nodup_append.2 ⟨h.dn, by simp, fun a ha b hb e => by simp at hb; subst hb; subst e; exact q.out ha⟩, fun y hy => ?_, ?_⟩
  · rcases List.mem_append.1 hy with z | z
    · exact h.dm y z
    · simp at z; subst z; exact q.mem
  · rw [List.filter_append, h.ls]; simp [hP]
theorem NdSt.take {W wr w5 w6 : World} {B g r : Nat} {m : List (Int × Int)} {P : Int → Bool} {l0 D L : List Int} {v v' : Value} (h : NdSt W wr B g r m P l0 D L v) {k : Int} (q : NdMid W wr w5 B g r m P l0 D L v k) (hP : P k = true)
    (o : Obj) (ha : Appended B 3 (w5.alloc o) w6 v v' (L.length + 1) (L.map cellI ++ [cellI k])) : NdSt W w6 B g r m P l0 (D ++ [k]) (L ++ [k]) v' := by
  have hg := ha.grown
  have hgb : ∀ b, b < w5.heap.size → v.ownBlock ≠ some b → w6.heap[b]? = w5.heap[b]? := fun b hb hv => (hg.block b (by simp; omega) (fun e => hv e.symm)).trans (Below.heap_alloc _ _ _ hb)
  have hgl := q.it.mp.lt
  have hrl := q.it.lt
  have hvg : v.ownBlock ≠ some g := fun e => by
    obtain ⟨_, es, c, hb, _⟩ := q.it.mp
    rcases q.row.2 with ⟨hv, _⟩ | ⟨g2, _, _, hv, _, hg2, _⟩
    · rw [hv] at e; cases e
    · rw [hv] at e
      have : g2 = g := by simpa [Value.ownBlock] using e
      subst this
      rw [hb] at hg2
      cases hg2
  refine ⟨q.it.of_blocks (hgb g hgl hvg) (hgb r hrl (fun e => h.off r e rfl)), ?_, h.lo, by rw [List.map_append, List.length_append]; exact ha.row, fun x hx => ?_, List.nodup_append.2 ⟨h.dn, by simp, fun a ha' b hb e => by simp at hb; subst hb; subst e; exact q.out ha'⟩, fun y hy => ?_, ?_⟩
  · have b1 : Below W.heap.size W (w5.alloc o) := q.bel.alloc q.bel.size o
    refine b1.grown hg b1.size (fun k hk => ?_)
    have := (World.ownsRow.lt h.row k hk).1
    have := h.lo.2
    omega
  · rcases ha.new x hx with e | e
    · exact h.off x e
    · simp at e; omega
  · rcases List.mem_append.1 hy with z | z
    · exact h.dm y z
    · simp at z; subst z; exact q.mem
  · rw [List.filter_append, h.ls]; simp [hP]
end Go.Proofs.YtmajlldfiiokoaaGreatDoor

/- tree.Of, of any Walker. -/
namespace Go.Proofs.YtmajlldfiiokoaaGreatDoor
open Go.ChangeShapes Go.WideShapes Go.ChangeAt Go.RowKit Go.Deep
open Go.ChangeMaps (setBlock)
set_option linter.unusedVariables false

/-- The place of a group's key. -/
def gpre : ByteArray := ⟨#[103, 114, 111, 117, 112, 32]⟩
def gkeyT (s : ByteArray) : Int := hashN (gpre ++ s)
theorem gkey_t (s : ByteArray) (w : World) (hs : s.size ≤ 200) : Calls Tryz.prog 34 #[.string s] w fun e w' => e = .returned (.int .u64 (gkeyT s)) ∧ w' = w := by
  have hz : (gpre ++ s).size ≤ 300 := by rw [ByteArray.size_append]; show 6 + s.size ≤ 300; omega
  have H : Hid (Calls Tryz.prog 78 #[.string (gpre ++ s)] w fun e w' => e = .returned (.int .u64 (hashN (gpre ++ s))) ∧ w' = w) := hash_any _ _ hz
  have hl : s.size ≤ 200 := hs
  clear hz
  unfold gpre at H
  go_enter Tryz.func34, Tryz.ntmps34
  go_wp2_with (go_at_call 78; refine Calls.mono H.out ?_; rintro e w' ⟨rfl, hw'⟩; subst w')
  go_ret
  exact ⟨rfl, rfl⟩

theorem take_snocI (l : List Int) {j : Nat} (h : j < l.length) : l.take (j + 1) = l.take j ++ [l.getD j 0] := by
  rw [List.take_succ_eq_append_getElem h]; simp [List.getD, h]

end Go.Proofs.YtmajlldfiiokoaaGreatDoor
