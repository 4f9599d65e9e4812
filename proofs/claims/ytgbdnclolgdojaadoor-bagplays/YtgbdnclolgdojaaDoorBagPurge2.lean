/- slices.DeleteFunc of the packets to an address; bag.Purge. -/
import Derived.Test.YtgbdnclolgdojaaDoorBagPurge
namespace Go.Proofs.YtgbdnclolgdojaaDoor
open Go.ChangeShapes Go.WideShapes Go.ChangeAt Go.RowKit
set_option linter.unusedVariables false

theorem row_set {w : World} {g : Nat} {cur : Array Value} {t : TypeId} (h : w.heap[g]? = some (.cells cur t (0, 0))) (o : Nat) (u : Value) :
    (w.setCell ⟨g, o, none⟩ u).heap[g]? = some (.cells (cur.setIfInBounds o u) t (0, 0)) := by
  have hlt := lt_of_block h
  have h' : w.heap[g] = .cells cur t (0, 0) := by simpa [Array.getElem?_eq_getElem hlt] using h
  show (w.heap.modify g _)[g]? = _
  rw [Array.getElem?_eq_getElem (by simpa using hlt), Array.getElem_modify_self, h']
  rfl

/-- The packet q lies at place t of the row. -/
structure RowC (cur : Array Value) (t : Nat) (q : Pk) : Prop where
  c0 : cur[t * 4]? = some (.int .i64 q.id)
  c1 : cur[t * 4 + 1]? = some (.int .i64 q.src)
  c2 : cur[t * 4 + 2]? = some (.int .i64 q.dst)
  c3 : cur[t * 4 + 3]? = some (.string q.s)
def set4 (cur : Array Value) (i : Nat) (q : Pk) : Array Value :=
  (((cur.setIfInBounds (i * 4) (.int .i64 q.id)).setIfInBounds (i * 4 + 1) (.int .i64 q.src)).setIfInBounds (i * 4 + 2) (.int .i64 q.dst)).setIfInBounds (i * 4 + 3) (.string q.s)
theorem set4_size (cur : Array Value) (i : Nat) (q : Pk) : (set4 cur i q).size = cur.size := by simp [set4]
theorem set4_same (cur : Array Value) (i : Nat) (q : Pk) (h : i * 4 + 3 < cur.size) : RowC (set4 cur i q) i q := by
  constructor <;> simp [set4, Array.getElem?_setIfInBounds] <;> omega
theorem set4_other (cur : Array Value) (i t : Nat) (q p : Pk) (ht : t ≠ i) (h : RowC cur t p) : RowC (set4 cur i q) t p := by
  obtain ⟨a, b, c, d⟩ := h
  refine ⟨?_, ?_, ?_, ?_⟩ <;> unfold set4
  · rw [Array.getElem?_setIfInBounds_ne (by omega), Array.getElem?_setIfInBounds_ne (by omega), Array.getElem?_setIfInBounds_ne (by omega), Array.getElem?_setIfInBounds_ne (by omega)]; exact a
  · rw [Array.getElem?_setIfInBounds_ne (by omega), Array.getElem?_setIfInBounds_ne (by omega), Array.getElem?_setIfInBounds_ne (by omega), Array.getElem?_setIfInBounds_ne (by omega)]; exact b
  · rw [Array.getElem?_setIfInBounds_ne (by omega), Array.getElem?_setIfInBounds_ne (by omega), Array.getElem?_setIfInBounds_ne (by omega), Array.getElem?_setIfInBounds_ne (by omega)]; exact c
  · rw [Array.getElem?_setIfInBounds_ne (by omega), Array.getElem?_setIfInBounds_ne (by omega), Array.getElem?_setIfInBounds_ne (by omega), Array.getElem?_setIfInBounds_ne (by omega)]; exact d
theorem RowC.get {cur : Array Value} {t : Nat} {q : Pk} (h : RowC cur t q) (k : Nat) (hk : k < 4) : cur[t * 4 + k]? = q.cells[k]? := by
  match k, hk with
  | 0, _ => exact h.c0
  | 1, _ => exact h.c1
  | 2, _ => exact h.c2
  | 3, _ => exact h.c3
theorem rowc_take (cur : Array Value) (F : List Pk) (hs : F.length * 4 ≤ cur.size) (h : ∀ t, t < F.length → RowC cur t (F.getD t pk0)) : cur.toList.take (F.length * 4) = F.flatMap Pk.cells := by
  apply List.ext_getElem?
  intro m
  by_cases hm : m < F.length * 4
  · rw [List.getElem?_take_of_lt hm, Array.getElem?_toList]
    obtain ⟨t, k, hk, rfl⟩ : ∃ t k, k < 4 ∧ m = t * 4 + k := ⟨m / 4, m % 4, by omega, by omega⟩
    have ht : t < F.length := by omega
    rw [(h t ht).get k hk, flat_get Pk.cells 4 Pk.cells_len pk0 F t k ht hk]
  · rw [List.getElem?_eq_none (by rw [List.length_take]; omega), List.getElem?_eq_none (by rw [flat_len Pk.cells 4 Pk.cells_len]; omega)]

def keep (to' : Int) (p : Pk) : Bool := p.dst != to'
theorem keep_step (to' : Int) (ps : List Pk) (j : Nat) (hj : j < ps.length) : (ps.take (j + 1)).filter (keep to') = (ps.take j).filter (keep to') ++ if (ps.getD j pk0).dst = to' then [] else [ps.getD j pk0] := by
  rw [List.take_succ_eq_append_getElem hj, List.filter_append]
  have e : ps.getD j pk0 = ps[j] := by simp [List.getD, hj]
  rw [e]
  by_cases h : ps[j].dst = to' <;> simp [keep, h]

/-- Where the copying stands. -/
structure DI (w wr : World) (gg cap : Nat) (ps : List Pk) (to' : Int) (i j : Nat) (cur : Array Value) : Prop where
  blk : wr.heap[gg]? = some (.cells cur 41 (0, 0))
  size : cur.size = cap * 4
  at' : i = ((ps.take j).filter (keep to')).length
  low : ∀ t, t < i → RowC cur t (((ps.take j).filter (keep to')).getD t pk0)
  high : ∀ t, j ≤ t → t < ps.length → RowC cur t (ps.getD t pk0)
  grown : w.grownBy wr (some gg)

theorem DI.cells {w wr : World} {gg cap : Nat} {ps : List Pk} {to' : Int} {i j : Nat} {cur : Array Value} (h : DI w wr gg cap ps to' i j cur) (t : Nat) (ht : j ≤ t) (hn : t < ps.length) :
    wr.cell? ⟨gg, t * 4, none⟩ = some (.int .i64 (ps.getD t pk0).id) ∧ wr.cell? ⟨gg, t * 4 + 1, none⟩ = some (.int .i64 (ps.getD t pk0).src) ∧ wr.cell? ⟨gg, t * 4 + 2, none⟩ = some (.int .i64 (ps.getD t pk0).dst) ∧ wr.cell? ⟨gg, t * 4 + 3, none⟩ = some (.string (ps.getD t pk0).s) := by
  obtain ⟨a, b, c, d⟩ := h.high t ht hn
  simp [World.cell?, h.blk, a, b, c, d]
theorem DI.below {w wr w' : World} {gg cap : Nat} {ps : List Pk} {to' : Int} {i j : Nat} {cur : Array Value} (h : DI w wr gg cap ps to' i j cur) (hb : Below wr.heap.size wr w') : DI w w' gg cap ps to' i j cur :=
  ⟨(hb.block gg (lt_of_block h.blk)).trans h.blk, h.size, h.at', h.low, h.high, ⟨hb.os.trans h.grown.os, hb.tape.trans h.grown.tape, hb.output.trans h.grown.output, Nat.le_trans h.grown.size hb.size, fun k hk hr => (hb.block k (Nat.lt_of_lt_of_le hk h.grown.size)).trans (h.grown.block k hk hr)⟩⟩
theorem DI.skip {w wr : World} {gg cap : Nat} {ps : List Pk} {to' : Int} {i j : Nat} {cur : Array Value} (h : DI w wr gg cap ps to' i j cur) (hj : j < ps.length) (hd : (ps.getD j pk0).dst = to') : DI w wr gg cap ps to' i (j + 1) cur := by
  have e : (ps.take (j + 1)).filter (keep to') = (ps.take j).filter (keep to') := by rw [keep_step to' ps j hj, if_pos hd, List.append_nil]
  exact ⟨h.blk, h.size, by rw [e]; exact h.at', by rw [e]; exact h.low, fun t ht => h.high t (by omega), h.grown⟩
theorem DI.copy {w wr : World} {gg cap : Nat} {ps : List Pk} {to' : Int} {i j : Nat} {cur : Array Value} (h : DI w wr gg cap ps to' i j cur) (hj : j < ps.length) (hij : i < j) (hn : ps.length ≤ cap) (hd : (ps.getD j pk0).dst ≠ to') :
    DI w ((((wr.setCell ⟨gg, i * 4, none⟩ (.int .i64 (ps.getD j pk0).id)).setCell ⟨gg, i * 4 + 1, none⟩ (.int .i64 (ps.getD j pk0).src)).setCell ⟨gg, i * 4 + 2, none⟩ (.int .i64 (ps.getD j pk0).dst)).setCell ⟨gg, i * 4 + 3, none⟩ (.string (ps.getD j pk0).s)) gg cap ps to' (i + 1) (j + 1) (set4 cur i (ps.getD j pk0)) := by
  have e : (ps.take (j + 1)).filter (keep to') = (ps.take j).filter (keep to') ++ [ps.getD j pk0] := by rw [keep_step to' ps j hj, if_neg hd]
  have hsz := h.size
  have hat := h.at'
  refine ⟨row_set (row_set (row_set (row_set h.blk _ _) _ _) _ _) _ _, by rw [set4_size]; exact h.size, ?_, fun t ht => ?_, fun t ht hn' => set4_other _ _ _ _ _ (by omega) (h.high t (by omega) hn'), ?_⟩
  · rw [e, List.length_append, ← hat]; rfl
  · rw [e]
    by_cases et : t = i
    · subst et
      have : ((ps.take j).filter (keep to') ++ [ps.getD j pk0]).getD t pk0 = ps.getD j pk0 := by
        rw [List.getD_eq_getElem?_getD, List.getElem?_append_right (by omega), ← hat]; simp
      rw [this]
      exact set4_same _ _ _ (by omega)
    · have : ((ps.take j).filter (keep to') ++ [ps.getD j pk0]).getD t pk0 = ((ps.take j).filter (keep to')).getD t pk0 := by
        rw [List.getD_eq_getElem?_getD, List.getElem?_append_left (by omega), ← List.getD_eq_getElem?_getD]
      rw [this]
      exact set4_other _ _ _ _ _ et (h.low t (by omega))
  · have g := h.grown
    refine ⟨g.os, g.tape, g.output, by simp [World.setCell]; exact g.size, fun k hk hr => ?_⟩
    have hne : k ≠ gg := fun e => hr (by rw [e])
    rw [Below.heap_setCell _ _ _ _ (by simpa using hne), Below.heap_setCell _ _ _ _ (by simpa using hne), Below.heap_setCell _ _ _ _ (by simpa using hne), Below.heap_setCell _ _ _ _ (by simpa using hne)]
    exact g.block k hk hr
theorem take_all_kept (to' : Int) (ps : List Pk) (r : Nat) (hr : r ≤ ps.length) (h : ∀ t, t < r → (ps.getD t pk0).dst ≠ to') : (ps.take r).filter (keep to') = ps.take r := by
  refine List.filter_eq_self.2 fun p hp => ?_
  obtain ⟨i, hi, e⟩ := List.mem_iff_getElem.1 hp
  rw [List.length_take] at hi
  have := h i (by omega)
  have e2 : ps.getD i pk0 = p := by rw [← e]; simp [List.getD]; rw [List.getElem?_eq_getElem (by omega)]; simp
  rw [e2] at this
  simpa [keep] using this
end Go.Proofs.YtgbdnclolgdojaaDoor
