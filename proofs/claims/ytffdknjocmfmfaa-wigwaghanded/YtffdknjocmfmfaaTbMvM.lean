/- What moves and what stays, by keys. -/
import Derived.Test.YtffdknjocmfmfaaTbTabs
import Derived.Test.YtffdknjocmfmfaaTbGrp
namespace Go.Proofs.Ytffdknjocmfmfaa
open Go.ChangeShapes Go.WideShapes Go.ChangeAt Go.RowKit
set_option linter.unusedVariables false

/-- Two rising lists with the same members are one. -/
theorem asc_ext {α : Type} {lt : α → α → Bool} (hl : Lin lt) : ∀ (A B : List α), Asc lt A → Asc lt B → (∀ x, x ∈ A ↔ x ∈ B) → A = B
  | [], [], _, _, _ => rfl
  | [], b :: B, _, _, h => by have := (h b).2 (by simp); cases this
  | a :: A, [], _, _, h => by have := (h a).1 (by simp); cases this
  | a :: A, b :: B, ha, hb, h => by
    obtain ⟨ha1, ha2⟩ := List.pairwise_cons.1 ha
    obtain ⟨hb1, hb2⟩ := List.pairwise_cons.1 hb
    have hab : a = b := by
      rcases List.mem_cons.1 ((h a).1 (by simp)) with q | q
      · exact q
      · rcases List.mem_cons.1 ((h b).2 (by simp)) with q' | q'
        · exact q'.symm
        · have h1 := hl.trans _ _ _ (hb1 a q) (ha1 b q')
          rw [hl.irr] at h1; cases h1
    subst hab
    have hA : ∀ x, x ∈ A → x ≠ a := fun x hx e => by have := ha1 x hx; rw [e, hl.irr] at this; cases this
    have hB : ∀ x, x ∈ B → x ≠ a := fun x hx e => by have := hb1 x hx; rw [e, hl.irr] at this; cases this
    rw [asc_ext hl A B ha2 hb2 (fun x => ⟨fun hx => by
      rcases List.mem_cons.1 ((h x).1 (List.mem_cons_of_mem _ hx)) with q | q
      · exact absurd q (hA x hx)
      · exact q, fun hx => by
      rcases List.mem_cons.1 ((h x).2 (List.mem_cons_of_mem _ hx)) with q | q
      · exact absurd q (hB x hx)
      · exact q⟩)]
theorem key_putE {X : List Ep} (h : Asc ltK (X.map Ep.key)) (x : Ep) (k : ByteArray × Int) : k ∈ (putE X x).map Ep.key ↔ k = x.key ∨ k ∈ X.map Ep.key := by
  simp only [List.mem_map]
  constructor
  · rintro ⟨y, hy, rfl⟩
    rcases (mem_putE h x y).1 hy with q | q
    · exact .inl (by rw [q])
    · exact .inr ⟨y, q.1, rfl⟩
  · rintro (rfl | ⟨y, hy, rfl⟩)
    · exact ⟨x, (mem_putE h x x).2 (.inl rfl), rfl⟩
    · by_cases e : y.key = x.key
      · exact ⟨x, (mem_putE h x x).2 (.inl rfl), e.symm⟩
      · exact ⟨y, (mem_putE h x y).2 (.inr ⟨hy, e⟩), rfl⟩
theorem gr_key (X : List Ep) : X.map Ep.gr = (X.map Ep.key).map Prod.fst := by simp [Ep.key, Function.comp_def]
theorem ofG_key (X : List Ep) (g : ByteArray) : (X.filter (ofG g)).length = ((X.map Ep.key).filter (fun k => k.1.toList == g.toList)).length := by
  rw [List.filter_map, List.length_map]
  rfl
theorem part_len {α : Type} (p : α → Bool) (X : List α) : (X.filter (fun x => !p x)).length + (X.filter p).length = X.length := by
  induction X with
  | nil => rfl
  | cons x X ih => cases q : p x <;> simp [q] <;> omega
theorem part_key (p : Ep → Bool) (X : List Ep) (k : ByteArray × Int) : (k ∈ (X.filter (fun x => !p x)).map Ep.key ∨ k ∈ (X.filter p).map Ep.key) ↔ k ∈ X.map Ep.key := by
  simp only [List.mem_map, List.mem_filter]
  constructor
  · rintro (⟨x, hx, rfl⟩ | ⟨x, hx, rfl⟩)
    · exact ⟨x, hx.1, rfl⟩
    · exact ⟨x, hx.1, rfl⟩
  · rintro ⟨x, hx, rfl⟩
    cases q : p x
    · exact .inl ⟨x, ⟨hx, by simp [q]⟩, rfl⟩
    · exact .inr ⟨x, ⟨hx, q⟩, rfl⟩
theorem part_again {α : Type} (p : α → Bool) (X : List α) : (X.filter (fun x => !p x)).filter p = [] ∧ (X.filter (fun x => !p x)).filter (fun x => !p x) = X.filter (fun x => !p x) := by
  refine ⟨?_, ?_⟩
  · rw [List.filter_eq_nil_iff]; intro x hx; have := (List.mem_filter.1 hx).2; simpa using this
  · rw [List.filter_eq_self]; intro x hx; exact (List.mem_filter.1 hx).2
/-- The first loop: both tables have the same keys. -/
structure MvI (i : Nat) (X : Nat → List Ep) : Prop where
  l0 : (X 0).length ≤ i
  l1 : (X 1).length ≤ i
  sz : ∀ x ∈ X 0, x.gr.size ≤ 200
  same : ∀ k, k ∈ (X 0).map Ep.key ↔ k ∈ (X 1).map Ep.key
theorem MvI.nil : MvI 0 (fun _ => []) := ⟨Nat.le_refl _, Nat.le_refl _, (fun x hx => by cases hx), fun k => Iff.rfl⟩
theorem MvI.put {i : Nat} {X : Nat → List Ep} (h : MvI i X) (h0 : Asc ltK ((X 0).map Ep.key)) (h1 : Asc ltK ((X 1).map Ep.key)) {x y : Ep} {k : ByteArray × Int} (hx : x.key = k) (hy : y.key = k) (hs : k.1.size ≤ 200) :
    MvI (i + 1) (upd (upd X 0 (putE (X 0) x)) 1 (putE (upd X 0 (putE (X 0) x) 1) y)) := by
  have e1 : upd X 0 (putE (X 0) x) 1 = X 1 := upd_other _ _ (by omega)
  have e2 : upd (upd X 0 (putE (X 0) x)) 1 (putE (X 1) y) 0 = putE (X 0) x := by rw [upd_other _ _ (by omega), upd_same]
  rw [e1]
  refine ⟨?_, ?_, ?_, ?_⟩
  · rw [e2]; have := len_putE (X 0) x; have := h.l0; omega
  · rw [upd_same]; have := len_putE (X 1) y; have := h.l1; omega
  · rw [e2]
    intro z hz
    rcases (mem_putE h0 x z).1 hz with q | q
    · subst q; have e : z.gr = k.1 := congrArg Prod.fst hx; rw [e]; exact hs
    · exact h.sz z q.1
  · intro q
    rw [e2, upd_same, key_putE h0, key_putE h1, hx, hy, h.same q]
/-- The second loop: what moved is put again. -/
structure MvB (X : Nat → List Ep) (Y M : List Ep) (j : Nat) (Z : Nat → List Ep) : Prop where
  len : (Z 0).length ≤ Y.length + j
  one : Z 1 = X 1
  key : ∀ k, k ∈ (Z 0).map Ep.key ↔ k ∈ Y.map Ep.key ∨ k ∈ (M.take j).map Ep.key
theorem MvB.start (X : Nat → List Ep) (Y M : List Ep) (Z : Nat → List Ep) (h0 : Z 0 = Y) (h1 : Z 1 = X 1) : MvB X Y M 0 Z := ⟨by rw [h0]; omega, h1, fun k => by rw [h0]; simp⟩
theorem MvB.put {X : Nat → List Ep} {Y M : List Ep} {j : Nat} {Z : Nat → List Ep} (h : MvB X Y M j Z) (h0 : Asc ltK ((Z 0).map Ep.key)) (hj : j < M.length) {x : Ep} (hx : x.key = (M.getD j ep0).key) : MvB X Y M (j + 1) (upd Z 0 (putE (Z 0) x)) := by
  refine ⟨?_, ?_, ?_⟩
  · rw [upd_same]; have := len_putE (Z 0) x; have := h.len; omega
  · rw [upd_other _ _ (by omega)]; exact h.one
  · intro k
    rw [upd_same, key_putE h0, h.key k, hx, List.take_add_one, List.getElem?_eq_getElem hj, List.map_append, List.mem_append]
    simp only [List.getD_eq_getElem?_getD, List.getElem?_eq_getElem hj, Option.getD_some, Option.toList_some, List.map_cons, List.map_nil, List.mem_singleton]
    constructor
    · rintro (q | q | q)
      · exact .inr (.inr q)
      · exact .inl q
      · exact .inr (.inl q)
    · rintro (q | q | q)
      · exact .inr (.inl q)
      · exact .inr (.inr q)
      · exact .inl q
theorem MvB.fin {X : Nat → List Ep} {p : Ep → Bool} {Z : Nat → List Ep} {i : Nat} (h : MvB X ((X 0).filter (fun x => !p x)) ((X 0).filter p) ((X 0).filter p).length Z) (hi : MvI i X) (h0 : Asc ltK ((Z 0).map Ep.key)) (h1 : Asc ltK ((Z 1).map Ep.key)) : (Z 0).map Ep.key = (Z 1).map Ep.key := by
  refine asc_ext linK _ _ h0 h1 (fun k => ?_)
  rw [h.key, List.take_length, part_key, h.one]
  exact hi.same k
/-- The last loop: two tables and the names of their groups. -/
structure MvF (B : Nat) (w0 w : World) (Z : Nat → List Ep) (pa qa : Option Addr) (N : List ByteArray) : Prop where
  tab : Tabs B w0 w 2 Z (fun _ => False)
  p : StrIn w pa N.length N
  q : StrIn w qa N.length N
theorem MvF.below {B : Nat} {w0 w w' : World} {Z : Nat → List Ep} {pa qa : Option Addr} {N : List ByteArray} (h : MvF B w0 w Z pa qa N) (hb : Below w.heap.size w w') : MvF B w0 w' Z pa qa N :=
  ⟨h.tab.below hb, h.p.below (Nat.le_refl _) hb, h.q.below (Nat.le_refl _) hb⟩
theorem StrIn.get {w : World} {a : Option Addr} {n : Nat} {L : List ByteArray} (h : StrIn w a n L) {j : Nat} (hj : j < n) : ∃ b o, a = some ⟨b, o, none⟩ ∧ b < w.heap.size ∧ w.cell? ⟨b, o + j, none⟩ = some (.string (L.getD j ByteArray.empty)) := by
  obtain ⟨b, o, ha, hb, hc⟩ := h.2.resolve_left (by omega)
  exact ⟨b, o, ha, hb, hc j hj⟩
theorem mvChild {B : Nat} {w0 w : World} {Z : Nat → List Ep} {pa qa : Option Addr} {N : List ByteArray} (h : MvF B w0 w Z pa qa N) (hk : (Z 0).map Ep.key = (Z 1).map Ep.key) (g : ByteArray) (W : World) (hW : Below w.heap.size w W) (r : Nat) (hr : r = B ∨ r = B + 1) :
    Calls Try.prog 10 #[.pointer (some ⟨r, 0, none⟩), .string g] W fun e w' => ∃ a c, e = .returned (.slice a ((Z 0).filter (ofG g)).length c) ∧ Below W.heap.size W w' := by
  have hT := h.tab.below hW
  have hl : ∀ {Y : List Ep} {V : List Ep}, Y.map Ep.core = (V.filter (ofG g)).map Ep.core → Y.length = (V.filter (ofG g)).length := fun q => by have := congrArg List.length q; simpa using this
  rcases hr with rfl | rfl
  · refine ((hT.own (i := 0) (by omega)).children g).mono ?_
    rintro e w' ⟨a, c, Y, rfl, _, hb, hY⟩
    exact ⟨a, c, by rw [hl hY], hb⟩
  · refine ((hT.own (i := 1) (by omega)).children g).mono ?_
    rintro e w' ⟨a, c, Y, rfl, _, hb, hY⟩
    exact ⟨a, c, by rw [hl hY, ofG_key (Z 1), ← hk, ← ofG_key], hb⟩
end Go.Proofs.Ytffdknjocmfmfaa
