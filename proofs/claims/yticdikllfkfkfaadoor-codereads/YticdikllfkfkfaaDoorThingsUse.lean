/- Things in a row of the call's own: where each lies; their bytes together. -/
import Derived.Test.YticdikllfkfkfaaDoorCodePut
import Derived.Test.YticdikllfkfkfaaDoorThingsFrame
namespace Go.Proofs.YticdikllfkfkfaaDoor
open Go.ChangeShapes Go.WideShapes Go.ChangeAt Go.RowKit
set_option linter.unusedVariables false

theorem flat_at (us : List Th) (i j : Nat) (hi : i < us.length) (hj : j < 4) : (us.flatMap Th.cells)[i * 4 + j]? = (us.getD i th0).cells[j]? := by
  induction us generalizing i with
  | nil => simp at hi
  | cons u us ih =>
    rw [List.flatMap_cons]
    have hl : u.cells.length = 4 := rfl
    cases i with
    | zero => rw [List.getElem?_append_left (by rw [hl]; omega)]; simp
    | succ i =>
      rw [List.getElem?_append_right (by rw [hl]; omega), hl]
      have e : (i + 1) * 4 + j - 4 = i * 4 + j := by omega
      rw [e, ih i (by simpa using hi)]
      simp

/-- The things us lie in block g, from its beginning on. -/
structure ThRow (w : World) (g : Nat) (us : List Th) : Prop where
  lt : g < w.heap.size
  c0 : ∀ j, j < us.length → w.cell? ⟨g, j * 4, none⟩ = some (.int .i64 (us.getD j th0).kind)
  c1 : ∀ j, j < us.length → w.cell? ⟨g, j * 4 + 1, none⟩ = some (.int .i64 (us.getD j th0).n)
  c2 : ∀ j, j < us.length → w.cell? ⟨g, j * 4 + 2, none⟩ = some (.int .u64 (us.getD j th0).u)
  c3 : ∀ j, j < us.length → w.cell? ⟨g, j * 4 + 3, none⟩ = some (.string (us.getD j th0).s)

theorem ThRow.carry {w w' : World} {g : Nat} {us : List Th} (h : ThRow w g us) (hs : w.heap.size ≤ w'.heap.size) (hb : w'.heap[g]? = w.heap[g]?) : ThRow w' g us :=
  ⟨Nat.lt_of_lt_of_le h.lt hs, fun j hj => (World.cell?_of_block (a := ⟨g, j * 4, none⟩) hb).trans (h.c0 j hj), fun j hj => (World.cell?_of_block (a := ⟨g, j * 4 + 1, none⟩) hb).trans (h.c1 j hj),
   fun j hj => (World.cell?_of_block (a := ⟨g, j * 4 + 2, none⟩) hb).trans (h.c2 j hj), fun j hj => (World.cell?_of_block (a := ⟨g, j * 4 + 3, none⟩) hb).trans (h.c3 j hj)⟩
theorem ThRow.below {w w' : World} {g : Nat} {us : List Th} (h : ThRow w g us) (hb : Below w.heap.size w w') : ThRow w' g us := h.carry hb.size (hb.block g h.lt)
theorem ThRow.alloc {w : World} {g : Nat} {us : List Th} (h : ThRow w g us) (o : Obj) : ThRow (w.alloc o) g us := h.carry (by simp) (Below.heap_alloc w o g h.lt)
theorem ThRow.kept {w w' : World} {g p : Nat} {v v' : Value} {us : List Th} (h : ThRow w g us) (hk : Kept w w' p v v') (hp : g ≠ p) (hv : v.ownBlock ≠ some g) : ThRow w' g us :=
  h.carry hk.size (hk.block g h.lt hp (fun e => hv e.symm))
theorem ThRow.adds {w w' : World} {g q : Nat} {us : List Th} (h : ThRow w g us) (hk : Adds w w' q) (hq : g ≠ q) : ThRow w' g us :=
  h.carry hk.size (hk.block g h.lt hq)

/-- What few hands back: nil and nothing, or a row of its own. -/
theorem row_of {w : World} {B : Nat} {v : Value} {us : List Th} (h : w.ownsRow B 33 4 v us.length (us.flatMap Th.cells)) :
    (∃ a c, v = .slice a 0 c ∧ us = []) ∨ ∃ g c, v = .slice (some ⟨g, 0, none⟩) us.length c ∧ B ≤ g ∧ 0 < us.length ∧ ThRow w g us := by
  by_cases h0 : us.length = 0
  · have hu : us = [] := List.eq_nil_of_length_eq_zero h0
    subst hu
    rcases h.2 with ⟨rfl, _⟩ | ⟨g, cap, cur, rfl, _⟩
    · exact .inl ⟨none, 0, rfl, rfl⟩
    · exact .inl ⟨_, cap, rfl, rfl⟩
  · rcases h.2 with ⟨_, h1⟩ | ⟨g, cap, cur, hv, hb, hg, _⟩
    · omega
    · have hc : ∀ i, i < us.length → ∀ j, j < 4 → w.cell? ⟨g, i * 4 + j, none⟩ = (us.getD i th0).cells[j]? := fun i hi j hj => by
        have hx := flat_at us i j hi hj
        have hj' : j < (us.getD i th0).cells.length := hj
        have e := h.cells (g := g) (by rw [hv]; rfl) (i * 4 + j) ((us.getD i th0).cells[j]) (by rw [hx, List.getElem?_eq_getElem hj'])
        have ea : (⟨g, 0, none⟩ : Addr).add (i * 4 + j) = ⟨g, i * 4 + j, none⟩ := by unfold Addr.add; split <;> simp_all
        rw [ea] at e
        rw [e, List.getElem?_eq_getElem hj']
      refine .inr ⟨g, cap, hv, hb, by omega, lt_of_block hg, fun j hj => ?_, fun j hj => ?_, fun j hj => ?_, fun j hj => ?_⟩
      · have := hc j hj 0 (by omega); simpa [Th.cells] using this
      · have := hc j hj 1 (by omega); simpa [Th.cells] using this
      · have := hc j hj 2 (by omega); simpa [Th.cells] using this
      · have := hc j hj 3 (by omega); simpa [Th.cells] using this

/-- A thing in a block of its own: its four cells. -/
theorem th_block {w : World} {b : Nat} {t : Th} (h : w.heap[b]? = some (.cells #[.int .i64 t.kind, .int .i64 t.n, .int .u64 t.u, .string t.s] 33 (0, 0))) :
    w.cell? ⟨b, 0, none⟩ = some (.int .i64 t.kind) ∧ w.cell? ⟨b, 1, none⟩ = some (.int .i64 t.n) ∧ w.cell? ⟨b, 2, none⟩ = some (.int .u64 t.u) ∧ w.cell? ⟨b, 3, none⟩ = some (.string t.s) := by
  simp [World.cell?, h]

/-- All their bytes. -/
def bytesOf (us : List Th) : List UInt8 := us.flatMap Th.bytes
theorem bytesOf_snoc (us : List Th) (k : Nat) (h : k < us.length) : bytesOf (us.take (k + 1)) = bytesOf (us.take k) ++ (us.getD k th0).bytes := by
  unfold bytesOf; rw [take_snocT us k h, List.flatMap_append]; simp
theorem bytesOf_len (us : List Th) (h : ∀ u ∈ us, u.bytes.length ≤ 210) : (bytesOf us).length ≤ 210 * us.length := by
  unfold bytesOf
  induction us with
  | nil => simp
  | cons u us ih =>
    have h1 := h u (by simp)
    have h2 := ih (fun x hx => h x (by simp [hx]))
    simp only [List.flatMap_cons, List.length_append, List.length_cons]; omega

/-- The few things of a slice. -/
def fewOf (ts : List Th) (m : Nat) : List Th := (ts.take m).map fun t => t.cut 200
theorem fewOf_ok {ts : List Th} {m : Nat} (h : ∀ t ∈ ts, t.ok) : ∀ u ∈ fewOf ts m, u.ok ∧ u.s.size ≤ 200 := by
  intro u hu
  obtain ⟨t, ht, rfl⟩ := List.mem_map.1 hu
  have ho := h t (List.mem_of_mem_take ht)
  refine ⟨⟨ho.1, ho.2.1, ho.2.2.1, ?_⟩, cut_size t.s 200⟩
  have := cut_size t.s 200
  show (cut t.s 200).size ≤ maxLen
  unfold maxLen; omega
theorem fewOf_len (ts : List Th) (m : Nat) : (fewOf ts m).length ≤ m := by simp [fewOf]; omega
theorem IsThings.oks {w : World} {a : Option Addr} {len cap : Nat} {ts : List Th} (h : IsThings w a len cap ts) : ∀ t ∈ ts, t.ok := by
  rcases h with ⟨_, rfl⟩ | ⟨b, off, _, _, _, _, hT⟩
  · simp
  · exact hT.ok
theorem IsThings.below {w w' : World} {a : Option Addr} {len cap : Nat} {ts : List Th} (h : IsThings w a len cap ts) (hb : Below w.heap.size w w') : IsThings w' a len cap ts := by
  rcases h with h | ⟨b, off, h1, h2, h3, h4, hT⟩
  · exact .inl h
  · have e := hb.block b h4
    exact .inr ⟨b, off, h1, h2, h3, Nat.lt_of_lt_of_le h4 hb.size, hT.lenEq, fun j hj => (World.cell?_of_block (a := ⟨b, off + j * 4, none⟩) e).trans (hT.c0 j hj), fun j hj => (World.cell?_of_block (a := ⟨b, off + j * 4 + 1, none⟩) e).trans (hT.c1 j hj),
      fun j hj => (World.cell?_of_block (a := ⟨b, off + j * 4 + 2, none⟩) e).trans (hT.c2 j hj), fun j hj => (World.cell?_of_block (a := ⟨b, off + j * 4 + 3, none⟩) e).trans (hT.c3 j hj), hT.ok⟩

theorem few_of (a : Option Addr) (len cap m : Nat) (ts : List Th) (w : World) (h : IsThings w a len cap ts) (hm40 : m ≤ 40) :
    Calls Tryd.prog 11 #[.slice a len cap, .int .i64 m] w fun e w' => ∃ v, e = .returned v ∧ w'.ownsRow w.heap.size 33 4 v (fewOf ts m).length ((fewOf ts m).flatMap Th.cells) ∧ Below w.heap.size w w' := by
  refine (few_any a len cap m ts w h hm40).mono ?_
  rintro e w' ⟨v, rfl, h1, h2⟩
  refine ⟨v, rfl, ?_, h2⟩
  have e1 : (fewOf ts m).length = (ts.take m).length := by simp [fewOf]
  rw [e1]; exact h1
end Go.Proofs.YticdikllfkfkfaaDoor
