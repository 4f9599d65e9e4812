/- Places that are written one behind another and read again. -/
import Derived.Test.YthadgekojenpjabLawIds
import Derived.Test.YthadgekojenpjabRiseMath
import Derived.Test.YthadgekojenpjabCodeKeep
namespace Go.Proofs.Ythadgekojenpjab
open Go.ChangeShapes Go.WideShapes Go.ChangeAt Go.RowKit
set_option linter.unusedVariables false

def numsB (l : List Int) : List UInt8 := l.flatMap fun y => numB y.toNat
theorem numsB_nil : numsB [] = [] := rfl
theorem numsB_app (a b : List Int) : numsB (a ++ b) = numsB a ++ numsB b := by simp [numsB]
theorem numsB_one (y : Int) : numsB [y] = numB y.toNat := by simp [numsB]
theorem take_one {R : List Int} {j : Nat} (hj : j < R.length) : R.take (j + 1) = R.take j ++ [R.getD j 0] := by
  rw [List.take_add_one, List.getD_eq_getElem?_getD, List.getElem?_eq_getElem hj]; rfl
theorem numsB_take {R : List Int} {j : Nat} (hj : j < R.length) : numsB (R.take (j + 1)) = numsB (R.take j) ++ numB (R.getD j 0).toNat := by
  rw [take_one hj, numsB_app, numsB_one]
theorem toNat_lt {y : Int} (h : 0 ≤ y ∧ y ≤ 18446744073709551615) : y.toNat < 18446744073709551616 := by omega
theorem numsB_len : ∀ (l : List Int), InU l → (numsB l).length ≤ 10 * l.length
  | [], _ => by simp [numsB]
  | y :: l, h => by
    have a := numsB_len l (fun z hz => h z (by simp [hz]))
    have b := numB_len10 y.toNat (toNat_lt (h y (by simp)))
    have e : numsB (y :: l) = numB y.toNat ++ numsB l := by simp [numsB]
    rw [e, List.length_append, List.length_cons]
    omega
theorem inU_take {l : List Int} (h : InU l) (j : Nat) : InU (l.take j) := fun y hy => h y (List.mem_of_mem_take hy)
theorem numsB_read {R : List Int} (hu : InU R) {j : Nat} (hj : j < R.length) :
    rdNum 0 0 ((numsB R).drop (numsB (R.take j)).length) = ((R.getD j 0).toNat, (numB (R.getD j 0).toNat).length, 0) := by
  have e : numsB R = numsB (R.take j) ++ (numB (R.getD j 0).toNat ++ numsB (R.drop (j + 1))) := by
    rw [← List.append_assoc, ← numsB_take hj, ← numsB_app, List.take_append_drop]
  rw [e, List.drop_left]
  exact rd_back _ _ (toNat_lt (inU_getD hu j))

theorem owner_least {S : List Int} {x : Int} {o : Nat} (hp : S.Pairwise (· < ·)) (hu : InU S) (hx : 0 ≤ x ∧ x ≤ 18446744073709551615) (ho : ownerN S x = o) (hol : o < S.length) (k : Nat) (hk : k < S.length) :
    ¬ dist x (S.getD k 0) < dist x (S.getD o 0) := by
  have hkr := inU_getD hu k
  have hor := inU_getD hu o
  have le : ∀ i j, i ≤ j → j < S.length → S.getD i 0 ≤ S.getD j 0 := fun i j hij hj => by
    rcases Nat.lt_or_eq_of_le hij with q | q
    · exact Int.le_of_lt (rising_getD hp i j q hj)
    · subst q; exact Int.le_refl _
  -- the first place that isn't below x
  have first : ∀ n, n ≤ S.length → (∀ j, j < n → S.getD j 0 < x) ∨ ∃ m, m < n ∧ (∀ j, j < m → S.getD j 0 < x) ∧ x ≤ S.getD m 0 := by
    intro n
    induction n with
    | zero => intro _; exact .inl (fun j hj => by omega)
    | succ n ih =>
      intro hn
      rcases ih (by omega) with h | ⟨m, hm, h1, h2⟩
      · by_cases q : S.getD n 0 < x
        · exact .inl (fun j hj => by
            by_cases r : j = n
            · subst r; exact q
            · exact h j (by omega))
        · exact .inr ⟨n, by omega, h, by omega⟩
      · exact .inr ⟨m, by omega, h1, h2⟩
  rcases first S.length (Nat.le_refl _) with h | ⟨m, hm, h1, h2⟩
  · have e := owner_miss S x (by omega) h
    have e0 : o = 0 := by omega
    subst e0
    have a := le 0 k (Nat.zero_le _) hk
    have b := h k hk
    have c := h 0 hol
    unfold dist
    omega
  · have e := owner_hit S x m hm h1 h2
    have e0 : o = m := by omega
    subst e0
    unfold dist
    by_cases q : k < o
    · have a := h1 k q
      omega
    · have a := le o k (by omega) hk
      omega

theorem IdsAt.frame {w w' : World} {a : Option Addr} {n : Nat} {l : List Int} (h : IdsAt w a n l) (p : Nat) (hn : ∀ x, a = some x → x.block ≠ p) (hf : ∀ k, k < w.heap.size → k ≠ p → w'.heap[k]? = w.heap[k]?) : IdsAt w' a n l := by
  obtain ⟨h1, h2⟩ := h
  refine ⟨h1, ?_⟩
  rcases h2 with h2 | ⟨b, o, ha, hc⟩
  · exact .inl h2
  · refine .inr ⟨b, o, ha, fun j hj => ?_⟩
    rw [← hc j hj]
    exact World.cell?_of_block (hf b (block_of_cell (hc j hj)) (hn _ ha))

theorem OwnIds.at {B : Nat} {w : World} {v : Value} {l : List Int} (h : OwnIds B w v l) : ∃ a c, v = .slice a l.length c ∧ l.length ≤ c ∧ IdsAt w a l.length l ∧ (∀ x, a = some x → B ≤ x.block ∧ x.block < w.heap.size) := by
  rcases h with ⟨rfl, rfl⟩ | ⟨g, c, rfl, hc, hB, hg, hR⟩
  · exact ⟨none, 0, rfl, Nat.le_refl _, ⟨rfl, .inl rfl⟩, fun x hx => by cases hx⟩
  · refine ⟨_, c, rfl, hc, ?_, fun x hx => by cases hx; exact ⟨hB, hg⟩⟩
    have q := hR.ids l.length (by simp)
    simpa using q

/-- The writer at p behind j numbers; all else since w2 is as it was. -/
structure Put1 (B : Nat) (w w2 wr : World) (p : Nat) (u : Value) (R : List Int) (j : Nat) : Prop where
  wri : Wr B wr p u (numsB (R.take j))
  own : ∀ k, u.ownBlock = some k → w2.heap.size ≤ k
  fr : ∀ k, k < w2.heap.size → k ≠ p → wr.heap[k]? = w2.heap[k]?
  sz : w2.heap.size ≤ wr.heap.size
  bel : Below B w wr
theorem Put1.step {B : Nat} {w w2 wr w' : World} {p : Nat} {u u' : Value} {R : List Int} {j : Nat} (h : Put1 B w w2 wr p u R j) (hB : B ≤ wr.heap.size) (hj : j < R.length)
    (hW : Wr B w' p u' (numsB (R.take j) ++ numB (R.getD j 0).toNat)) (hK : Kept wr w' p u u') : Put1 B w w2 w' p u' R (j + 1) := by
  refine ⟨by rw [numsB_take hj]; exact hW, fun k hk => ?_, fun k hk hp => ?_, Nat.le_trans h.sz hK.size, hK.below h.wri h.bel hB⟩
  · rcases hK.own k hk with q | q
    · exact h.own k q
    · exact Nat.le_trans h.sz q
  · rw [← h.fr k hk hp]
    refine hK.block k (by have := h.sz; omega) hp (fun e => ?_)
    have := h.own k e.symm
    omega

/-- The reader at q behind j numbers, and the row of them; all else since w3 is as it was. -/
structure Get2 (B : Nat) (w w3 wr : World) (q : Nat) (s : ByteArray) (v : Value) (R : List Int) (j : Nat) : Prop where
  rd : Rd wr q s (numsB (R.take j)).length 0
  row : wr.ownsRow w3.heap.size 24 1 v j ((R.take j).map (Value.int .u64))
  fr : ∀ k, k < w3.heap.size → k ≠ q → wr.heap[k]? = w3.heap[k]?
  sz : w3.heap.size ≤ wr.heap.size
  bel : Below B w wr
theorem Same.grown {w w' : World} {q : Nat} (h : Same w w' q) : w.grownBy w' (some q) :=
  ⟨h.os, h.tape, h.output, by rw [h.size]; exact Nat.le_refl _, fun k _ hk => h.block k (fun e => hk (by rw [e]))⟩
theorem Get2.rowAt {B : Nat} {w w3 wr w' : World} {q : Nat} {s : ByteArray} {v : Value} {R : List Int} {j : Nat} (h : Get2 B w w3 wr q s v R j) (hq : q < w3.heap.size) (hS : Same wr w' q) (o : Obj) :
    (w'.alloc o).ownsRow w3.heap.size 24 1 v j ((R.take j).map (Value.int .u64)) :=
  (h.row.kept hS.grown (.inr (fun e => by have := (h.row.lt q e).1; omega))).alloc o
theorem Get2.step {B : Nat} {w w3 wr w' w'' : World} {q k : Nat} {s : ByteArray} {v v' : Value} {R : List Int} {j : Nat} {o : Obj} (h : Get2 B w w3 wr q s v R j) (hBq : B ≤ q) (hq : q < w3.heap.size) (hj : j < R.length)
    (hS : Same wr w' q) (hR : Rd w' q s ((numsB (R.take j)).length + k) 0) (hk : k = (numB (R.getD j 0).toNat).length)
    (ha : Appended w3.heap.size 24 (w'.alloc o) w'' v v' (j + 1) ((R.take j).map (Value.int .u64) ++ [.int .u64 (R.getD j 0)])) : Get2 B w w3 w'' q s v' R (j + 1) := by
  have hv : ∀ i, v.ownBlock = some i → w3.heap.size ≤ i := fun i hi => (h.row.lt i hi).1
  have old : ∀ i, i < w3.heap.size → w''.heap[i]? = w'.heap[i]? := fun i hi => by
    have hi' : i < w'.heap.size := by rw [hS.size]; have := h.sz; omega
    rw [ha.grown.block i (by simp; omega) (fun e => by have := hv i e.symm; omega)]
    exact Below.heap_alloc w' o i hi'
  refine ⟨?_, ?_, fun i hi hiq => ?_, ?_, ?_⟩
  · rw [numsB_take hj, List.length_append, ← hk]
    exact (old q hq).trans hR
  · rw [take_one hj, List.map_append]
    exact ha.row
  · rw [old i hi, hS.block i hiq, h.fr i hi hiq]
  · have := ha.grown.size
    have := h.sz
    simp at *
    rw [hS.size] at *
    omega
  · have b1 : Below B w w' := hS.adds.below hBq (by have := h.sz; omega) h.bel
    have hsz : B ≤ w'.heap.size := by rw [hS.size]; have := h.sz; omega
    exact below_of_grown (b1.alloc hsz o) (by simp; omega) ha.grown (fun i hi => by have := hv i hi; omega)
theorem Get2.ids {B : Nat} {w w3 wr : World} {q j : Nat} {s : ByteArray} {a : Option Addr} {n c : Nat} {R : List Int} (h : Get2 B w w3 wr q s (.slice a n c) R j) (hj : j = R.length) : IdsAt wr a n R ∧ (∀ x, a = some x → w3.heap.size ≤ x.block) ∧ n = R.length := by
  subst hj
  have hr := h.row
  rw [List.take_of_length_le (Nat.le_refl _)] at hr
  rcases hr.2 with ⟨e, h0⟩ | ⟨g, cap, cur, e, hB, hg, hc, hm, hs, ht⟩
  · cases e
    exact ⟨⟨h0, .inl rfl⟩, fun x hx => (by cases hx), h0.symm⟩
  · cases e
    have r := row_of_cells hg R _ rfl (by simpa using ht)
    refine ⟨⟨rfl, .inr ⟨g, 0, rfl, fun j hj => ?_⟩⟩, fun x hx => by cases hx; exact hB, rfl⟩
    have q := (r j (by simpa using hj)).1
    rw [q]
    congr 2
    rw [getElem!_pos R.toArray j (by simpa using hj), List.getD_eq_getElem?_getD, List.getElem?_eq_getElem hj]
    simp

theorem src_id (wr : World) (x : Int) (c : Nat) : Src Try.prog 1 22 (.slice (some ⟨wr.heap.size, 0, none⟩) 1 c) 1 [.int .u64 x] (wr.alloc (.cells #[.int .u64 x] 24)) := by
  refine Src.ofSlice (e' := 24) _ Try.underlying22 _ 1 c _ rfl ?_ ?_
  · intro j u hu
    match j with
    | 0 => simp at hu; subst hu; simp [Addr.add, World.cell?_alloc_new]
    | j + 1 => simp at hu
  · intro u hu
    simp at hu; subst hu; rfl
end Go.Proofs.Ythadgekojenpjab
