/- Lists that rise: where one stands, or would; put in there. Texts by their bytes. No program in sight. -/
import Derived.WalkKit
namespace Go.Proofs.Ytffdknjocmfmfaa
open Go.RowKit
set_option linter.unusedVariables false

structure Lin {α : Type} (lt : α → α → Bool) : Prop where
  irr : ∀ a, lt a a = false
  trans : ∀ a b c, lt a b = true → lt b c = true → lt a c = true
  tri : ∀ a b, lt a b = false → lt b a = false → a = b
def Asc {α : Type} (lt : α → α → Bool) (L : List α) : Prop := L.Pairwise (fun a b => lt a b = true)
/-- How many lie ahead. -/
def lb {α : Type} (lt : α → α → Bool) : List α → α → Nat
  | [], _ => 0
  | a :: L, x => if lt a x then lb lt L x + 1 else 0

section
variable {α : Type} {lt : α → α → Bool} (d : α)
theorem lb_le (L : List α) (x : α) : lb lt L x ≤ L.length := by
  induction L with
  | nil => simp [lb]
  | cons a L ih => unfold lb; split <;> simp; omega
theorem lb_less (L : List α) (x : α) (t : Nat) (h : t < lb lt L x) : lt (L.getD t d) x = true := by
  induction L generalizing t with
  | nil => simp [lb] at h
  | cons a L ih =>
    unfold lb at h
    split at h
    · rename_i ha
      cases t with
      | zero => simpa using ha
      | succ t => simpa using ih t (by omega)
    · omega
theorem lb_not (hl : Lin lt) (L : List α) (hs : Asc lt L) (x : α) (t : Nat) (h : lb lt L x ≤ t) (ht : t < L.length) : lt (L.getD t d) x = false := by
  induction L generalizing t with
  | nil => simp at ht
  | cons a L ih =>
    obtain ⟨h1, h2⟩ := List.pairwise_cons.1 hs
    unfold lb at h
    split at h
    · cases t with
      | zero => omega
      | succ t => simpa using ih h2 t (by omega) (by simpa using ht)
    · rename_i ha
      cases t with
      | zero => simpa using ha
      | succ t =>
        have htL : t < L.length := by simpa using ht
        have hm : L.getD t d ∈ L := by rw [List.getD_eq_getElem?_getD, List.getElem?_eq_getElem htL]; exact List.getElem_mem _
        have hab := h1 _ hm
        cases q : lt ((a :: L).getD (t + 1) d) x with
        | false => rfl
        | true =>
          have : lt a x = true := hl.trans _ _ _ hab (by simpa using q)
          exact absurd this ha
theorem getD_memL (L : List α) (t : Nat) (h : t < L.length) : L.getD t d ∈ L := by
  rw [List.getD_eq_getElem?_getD, List.getElem?_eq_getElem h]; exact List.getElem_mem _
theorem mem_getDL {L : List α} {x : α} (h : x ∈ L) : ∃ t, t < L.length ∧ L.getD t d = x := by
  obtain ⟨t, ht, rfl⟩ := List.getElem_of_mem h
  exact ⟨t, ht, by rw [List.getD_eq_getElem?_getD, List.getElem?_eq_getElem ht]; rfl⟩
theorem getD_getElemL (L : List α) (t : Nat) (h : t < L.length) : L.getD t d = L[t] := by
  rw [List.getD_eq_getElem?_getD, List.getElem?_eq_getElem h]; rfl
theorem asc_getD {L : List α} (hs : Asc lt L) {s t : Nat} (h : s < t) (ht : t < L.length) : lt (L.getD s d) (L.getD t d) = true := by
  rw [getD_getElemL d L s (by omega), getD_getElemL d L t ht]
  exact List.pairwise_iff_getElem.1 hs s t (by omega) ht h
theorem lb_hit (hl : Lin lt) (L : List α) (hs : Asc lt L) (x : α) : (lb lt L x < L.length ∧ L.getD (lb lt L x) d = x) ↔ x ∈ L := by
  constructor
  · rintro ⟨h1, h2⟩; rw [← h2]; exact getD_memL d L _ h1
  · intro h
    obtain ⟨t, ht, rfl⟩ := mem_getDL d h
    have e : lb lt L (L.getD t d) = t := by
      rcases Nat.lt_trichotomy (lb lt L (L.getD t d)) t with q | q | q
      · have h1 := lb_not d hl L hs (L.getD t d) _ (Nat.le_refl _) (by omega)
        have h2 : lt (L.getD (lb lt L (L.getD t d)) d) (L.getD t d) = true := asc_getD d hs q ht
        rw [h1] at h2; cases h2
      · exact q
      · have := lb_less d L (L.getD t d) t q
        rw [hl.irr] at this; cases this
    rw [e]; exact ⟨ht, rfl⟩
theorem take_less (L : List α) (x : α) : ∀ a ∈ L.take (lb lt L x), lt a x = true := by
  induction L with
  | nil => simp [lb]
  | cons b L ih =>
    unfold lb
    split
    · rename_i h
      intro a ha
      rw [List.take_succ_cons] at ha
      rcases List.mem_cons.1 ha with rfl | ha
      · exact h
      · exact ih a ha
    · simp
theorem drop_more (hl : Lin lt) (L : List α) (hs : Asc lt L) (x : α) (hx : x ∉ L) : ∀ a ∈ L.drop (lb lt L x), lt x a = true := by
  intro a ha
  obtain ⟨t, ht, rfl⟩ := List.getElem_of_mem ha
  rw [List.getElem_drop]
  have hlen : lb lt L x + t < L.length := by simp at ht; omega
  have h1 := lb_not x hl L hs x (lb lt L x + t) (by omega) hlen
  rw [List.getD_eq_getElem?_getD, List.getElem?_eq_getElem hlen, Option.getD_some] at h1
  cases q : lt x (L[lb lt L x + t]) with
  | true => rfl
  | false => exact absurd (hl.tri _ _ h1 q) (fun e => hx (by rw [← e]; exact List.getElem_mem _))
/-- Put in. -/
def putIn (lt : α → α → Bool) (L : List α) (x : α) : List α := L.take (lb lt L x) ++ [x] ++ L.drop (lb lt L x)
theorem asc_putIn (hl : Lin lt) (L : List α) (hs : Asc lt L) (x : α) (hx : x ∉ L) : Asc lt (putIn lt L x) := by
  unfold putIn Asc
  rw [List.append_assoc, List.pairwise_append]
  refine ⟨hs.sublist (List.take_sublist _ _), ?_, fun a ha b hb => ?_⟩
  · rw [List.singleton_append, List.pairwise_cons]
    exact ⟨drop_more hl L hs x hx, hs.sublist (List.drop_sublist _ _)⟩
  · have h1 := take_less (lt := lt) L x a ha
    rw [List.singleton_append] at hb
    rcases List.mem_cons.1 hb with rfl | hb
    · exact h1
    · exact hl.trans _ _ _ h1 (drop_more hl L hs x hx b hb)
theorem mem_putIn (L : List α) (x y : α) : y ∈ putIn lt L x ↔ y = x ∨ y ∈ L := by
  unfold putIn
  have e : y ∈ L ↔ y ∈ L.take (lb lt L x) ∨ y ∈ L.drop (lb lt L x) := by
    rw [← List.mem_append, List.take_append_drop]
  rw [e]
  simp only [List.mem_append, List.mem_singleton]
  constructor
  · rintro ((h | h) | h) <;> simp [h]
  · rintro (h | h | h) <;> simp [h]
theorem len_putIn (L : List α) (x : α) : (putIn lt L x).length = L.length + 1 := by
  unfold putIn
  have := lb_le (lt := lt) L x
  simp; omega
theorem asc_nodup (hl : Lin lt) {L : List α} (hs : Asc lt L) : L.Nodup := hs.imp (fun h e => by rw [e, hl.irr] at h; cases h)
end

/-- Texts by their bytes. -/
def ltS (a b : ByteArray) : Bool := Op.bytesLess a.toList b.toList
theorem bl_irr : ∀ x : List UInt8, Op.bytesLess x x = false
  | [] => rfl
  | a :: x => by simp [Op.bytesLess, bl_irr x]
theorem bl_trans : ∀ x y z : List UInt8, Op.bytesLess x y = true → Op.bytesLess y z = true → Op.bytesLess x z = true
  | _, [], _, h, _ => by simp [Op.bytesLess] at h
  | _, _ :: _, [], _, h => by simp [Op.bytesLess] at h
  | [], _ :: _, _ :: _, _, _ => by simp [Op.bytesLess]
  | a :: x, b :: y, c :: z, h1, h2 => by
    simp only [Op.bytesLess, Bool.or_eq_true, decide_eq_true_eq, Bool.and_eq_true, beq_iff_eq] at *
    rcases h1 with h1 | ⟨rfl, h1⟩
    · rcases h2 with h2 | ⟨rfl, h2⟩
      · left; exact UInt8.lt_trans h1 h2
      · left; exact h1
    · rcases h2 with h2 | ⟨rfl, h2⟩
      · left; exact h2
      · right; exact ⟨rfl, bl_trans x y z h1 h2⟩
theorem bl_tri : ∀ x y : List UInt8, Op.bytesLess x y = false → Op.bytesLess y x = false → x = y
  | [], [], _, _ => rfl
  | [], _ :: _, h, _ => by simp [Op.bytesLess] at h
  | _ :: _, [], _, h => by simp [Op.bytesLess] at h
  | a :: x, b :: y, h1, h2 => by
    simp only [Op.bytesLess, Bool.or_eq_false_iff, decide_eq_false_iff_not, Bool.and_eq_false_iff, beq_eq_false_iff_ne] at h1 h2
    have e : a = b := by
      have q1 := h1.1; have q2 := h2.1
      rw [UInt8.lt_iff_toNat_lt] at q1 q2
      exact UInt8.toNat_inj.1 (by omega)
    subst e
    have r1 : Op.bytesLess x y = false := by rcases h1.2 with q | q; exact absurd rfl q; exact q
    have r2 : Op.bytesLess y x = false := by rcases h2.2 with q | q; exact absurd rfl q; exact q
    rw [bl_tri x y r1 r2]
theorem bytes_inj {a b : ByteArray} (h : a.toList = b.toList) : a = b := by
  rw [ByteArray.toList_eq, ByteArray.toList_eq] at h
  obtain ⟨⟨x⟩⟩ := a
  obtain ⟨⟨y⟩⟩ := b
  simpa using h
theorem linS : Lin ltS := ⟨fun a => bl_irr _, fun a b c => bl_trans _ _ _, fun a b h1 h2 => bytes_inj (bl_tri _ _ h1 h2)⟩
theorem eqS (a b : ByteArray) : (a.toList == b.toList) = decide (a = b) := by
  by_cases h : a = b
  · subst h; simp
  · have : ¬ a.toList = b.toList := fun e => h (bytes_inj e)
    simp [h, this]

/-- Is it among them? -/
def hasS (L : List ByteArray) (x : ByteArray) : Bool := L.any (fun y => y.toList == x.toList)
theorem hasS_iff (L : List ByteArray) (x : ByteArray) : hasS L x = true ↔ x ∈ L := by
  unfold hasS
  rw [List.any_eq_true]
  constructor
  · rintro ⟨y, hy, h⟩
    have : y = x := bytes_inj (by simpa using h)
    rw [← this]; exact hy
  · intro h; exact ⟨x, h, by simp⟩
theorem hasS_no {L : List ByteArray} {x : ByteArray} (h : x ∉ L) : hasS L x = false := by
  cases q : hasS L x with
  | false => rfl
  | true => exact absurd ((hasS_iff L x).1 q) h
/-- A key: a group, then a child. -/
def ltK (a b : ByteArray × Int) : Bool := ltS a.1 b.1 || (a.1.toList == b.1.toList && decide (a.2 < b.2))
theorem linK : Lin ltK := by
  refine ⟨fun a => ?_, fun a b c h1 h2 => ?_, fun a b h1 h2 => ?_⟩
  · simp [ltK, linS.irr]
  · simp only [ltK, Bool.or_eq_true, Bool.and_eq_true, eqS, decide_eq_true_eq] at *
    rcases h1 with h1 | ⟨e1, h1⟩
    · rcases h2 with h2 | ⟨e2, h2⟩
      · left; exact linS.trans _ _ _ h1 h2
      · left; rw [← e2]; exact h1
    · rcases h2 with h2 | ⟨e2, h2⟩
      · left; rw [e1]; exact h2
      · right; exact ⟨e1.trans e2, by omega⟩
  · simp only [ltK, Bool.or_eq_false_iff, Bool.and_eq_false_iff, eqS, decide_eq_false_iff_not] at *
    have e : a.1 = b.1 := linS.tri _ _ h1.1 h2.1
    have h3 : ¬ a.2 < b.2 := by rcases h1.2 with q | q; exact absurd e q; exact q
    have h4 : ¬ b.2 < a.2 := by rcases h2.2 with q | q; exact absurd e.symm q; exact q
    exact Prod.ext e (by omega)
end Go.Proofs.Ytffdknjocmfmfaa
