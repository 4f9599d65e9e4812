/- A bulletin as plain lists: events, subscriptions, what was given. No program in sight. -/
import Derived.Test.YtpepbhmdfjpblaaGreatDoorBkMap
import Derived.Test.YtpepbhmdfjpblaaGreatDoorValMath
namespace Go.Proofs.YtpepbhmdfjpblaaGreatDoor
open Go.RowKit
open Go.ChangeMaps (setBlock)
set_option linter.unusedVariables false

/-- Two lists go together, element by element. -/
def Rel2 {α β : Type} (R : α → β → Prop) : List α → List β → Prop
  | [], [] => True
  | a :: l, b :: m => R a b ∧ Rel2 R l m
  | _, _ => False
section
variable {α β : Type} {R S : α → β → Prop}
theorem rel2_mono (h : ∀ a b, R a b → S a b) : ∀ (l : List α) (m : List β), Rel2 R l m → Rel2 S l m
  | [], [], _ => trivial
  | a :: l, b :: m, q => ⟨h a b q.1, rel2_mono h l m q.2⟩
  | [], _ :: _, q => q.elim
  | _ :: _, [], q => q.elim
theorem rel2_snoc {a : α} {b : β} (hab : R a b) : ∀ (l : List α) (m : List β), Rel2 R l m → Rel2 R (l ++ [a]) (m ++ [b])
  | [], [], _ => ⟨hab, trivial⟩
  | c :: l, d :: m, q => ⟨q.1, rel2_snoc hab l m q.2⟩
  | [], _ :: _, q => q.elim
  | _ :: _, [], q => q.elim
theorem rel2_filter {p : α → Bool} {q : β → Bool} (h : ∀ a b, R a b → p a = q b) : ∀ (l : List α) (m : List β), Rel2 R l m → Rel2 R (l.filter p) (m.filter q)
  | [], [], _ => trivial
  | a :: l, b :: m, z => by
    have e := h a b z.1
    have ih := rel2_filter h l m z.2
    cases hq : q b
    · rw [hq] at e
      rw [List.filter_cons_of_neg (by simp [e]), List.filter_cons_of_neg (by simp [hq])]; exact ih
    · rw [hq] at e
      rw [List.filter_cons_of_pos e, List.filter_cons_of_pos hq]; exact ⟨z.1, ih⟩
  | [], _ :: _, z => z.elim
  | _ :: _, [], z => z.elim
theorem rel2_len : ∀ (l : List α) (m : List β), Rel2 R l m → l.length = m.length
  | [], [], _ => rfl
  | a :: l, b :: m, q => by simp [rel2_len l m q.2]
  | [], _ :: _, q => q.elim
  | _ :: _, [], q => q.elim
theorem rel2_left : ∀ (l : List α) (m : List β), Rel2 R l m → ∀ a ∈ l, ∃ b ∈ m, R a b
  | [], [], _, a, h => by cases h
  | c :: l, d :: m, q, a, h => by
    rcases List.mem_cons.1 h with rfl | h
    · exact ⟨d, by simp, q.1⟩
    · obtain ⟨b, hb, r⟩ := rel2_left l m q.2 a h
      exact ⟨b, List.mem_cons_of_mem _ hb, r⟩
  | [], _ :: _, q, _, _ => q.elim
  | _ :: _, [], q, _, _ => q.elim
theorem rel2_right : ∀ (l : List α) (m : List β), Rel2 R l m → ∀ b ∈ m, ∃ a ∈ l, R a b
  | [], [], _, a, h => by cases h
  | c :: l, d :: m, q, b, h => by
    rcases List.mem_cons.1 h with rfl | h
    · exact ⟨c, by simp, q.1⟩
    · obtain ⟨a, ha, r⟩ := rel2_right l m q.2 b h
      exact ⟨a, List.mem_cons_of_mem _ ha, r⟩
  | [], _ :: _, q, _, _ => q.elim
  | _ :: _, [], q, _, _ => q.elim
theorem rel2_map {γ : Type} {f : α → γ} {g : β → γ} (h : ∀ a b, R a b → f a = g b) : ∀ (l : List α) (m : List β), Rel2 R l m → l.map f = m.map g
  | [], [], _ => rfl
  | a :: l, b :: m, q => by simp [h a b q.1, rel2_map h l m q.2]
  | [], _ :: _, q => q.elim
  | _ :: _, [], q => q.elim
end
/-- An event on the board; a subscription; what was given. -/
structure Bev where
  key : Int × Int
  vs : List Vl
  pay : ByteArray
structure Bsb where
  key : Int × Int
  ps : List Pd
abbrev Bgf := (Int × Int) × (Int × Int)
/-- Pairs rise. -/
def ltP (a b : Int × Int) : Prop := a.1 < b.1 ∨ (a.1 = b.1 ∧ a.2 < b.2)
instance (a b : Int × Int) : Decidable (ltP a b) := by unfold ltP; infer_instance
theorem ltP_irrefl (a : Int × Int) : ¬ ltP a a := by unfold ltP; omega
theorem ltP_trans {a b c : Int × Int} (h : ltP a b) (h' : ltP b c) : ltP a c := by unfold ltP at *; omega
theorem ltP_total {a b : Int × Int} (h : a ≠ b) : ltP a b ∨ ltP b a := by
  obtain ⟨x, y⟩ := a
  obtain ⟨z, u⟩ := b
  simp only [ltP]
  by_cases h1 : x = z
  · subst h1
    have : y ≠ u := fun e => h (by rw [e])
    omega
  · omega
/-- Two rising lists with the same members are one. -/
theorem riseP_same : ∀ (l m : List (Int × Int)), l.Pairwise ltP → m.Pairwise ltP → (∀ x, x ∈ l ↔ x ∈ m) → l = m
  | [], [], _, _, _ => rfl
  | [], b :: m, _, _, h => by have := (h b).2 (by simp); cases this
  | a :: l, [], _, _, h => by have := (h a).1 (by simp); cases this
  | a :: l, b :: m, hl, hm, h => by
    obtain ⟨l1, l2⟩ := List.pairwise_cons.1 hl
    obtain ⟨m1, m2⟩ := List.pairwise_cons.1 hm
    have e : a = b := by
      rcases List.mem_cons.1 ((h a).1 (by simp)) with e | e
      · exact e
      · rcases List.mem_cons.1 ((h b).2 (by simp)) with e' | e'
        · exact e'.symm
        · exact absurd (ltP_trans (m1 a e) (l1 b e')) (ltP_irrefl b)
    subst e
    rw [riseP_same l m l2 m2 (fun x => ?_)]
    constructor
    · intro hx
      rcases List.mem_cons.1 ((h x).1 (List.mem_cons_of_mem _ hx)) with e | e
      · subst e; exact absurd (l1 x hx) (ltP_irrefl x)
      · exact e
    · intro hx
      rcases List.mem_cons.1 ((h x).2 (List.mem_cons_of_mem _ hx)) with e | e
      · subst e; exact absurd (m1 x hx) (ltP_irrefl x)
      · exact e
theorem riseP_nodup {l : List (Int × Int)} (h : l.Pairwise ltP) : l.Nodup := h.imp (fun q e => by subst e; exact ltP_irrefl _ q)
/-- Who is due: the list of those that take it and didn't get it, by rising pairs. -/
def DueL (U : List Bsb) (tk : Bsb → Prop) (L : List (Int × Int)) : Prop := L.Pairwise ltP ∧ ∀ k, k ∈ L ↔ ∃ u ∈ U, u.key = k ∧ tk u
theorem DueL.uniq {U : List Bsb} {tk : Bsb → Prop} {L M : List (Int × Int)} (h : DueL U tk L) (h' : DueL U tk M) : L = M :=
  riseP_same L M h.1 h'.1 (fun x => by rw [h.2, h'.2])
/-- What a key says. -/
theorem look_rel {β : Type} {R : (Int × Int) × Value → β → Prop} {key : β → Int × Int} (hk : ∀ p b, R p b → p.1 = key b) {m : List ((Int × Int) × Value)} {L : List β} (hr : Rel2 R m L) (k : Int × Int) :
    (lookK m k = none ∧ ∀ b ∈ L, key b ≠ k) ∨ ∃ b v, b ∈ L ∧ key b = k ∧ lookK m k = some v ∧ R (k, v) b := by
  cases h : lookK m k with
  | none =>
    refine .inl ⟨rfl, fun b hb e => ?_⟩
    obtain ⟨p, hp, r⟩ := rel2_right m L hr b hb
    exact lookK_none.1 h (List.mem_map.2 ⟨p, hp, by rw [hk p b r]; exact e⟩)
  | some v =>
    have hm := lookK_some h
    obtain ⟨b, hb, r⟩ := rel2_left m L hr _ hm
    exact .inr ⟨b, v, hb, (hk _ _ r).symm, rfl, r⟩
theorem keys_rel {β : Type} {R : (Int × Int) × Value → β → Prop} {key : β → Int × Int} (hk : ∀ p b, R p b → p.1 = key b) {m : List ((Int × Int) × Value)} {L : List β} (hr : Rel2 R m L) : m.map (·.1) = L.map key :=
  rel2_map hk m L hr
end Go.Proofs.YtpepbhmdfjpblaaGreatDoor
