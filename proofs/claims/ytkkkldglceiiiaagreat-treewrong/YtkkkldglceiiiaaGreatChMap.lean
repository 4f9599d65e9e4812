/- Maps keyed by ints, as lists of pairs; what a look-up, a store and a delete do. No program in sight. -/
import Derived.WalkKit
import Derived.MapKept
import Derived.Below
namespace Go.Proofs.YtkkkldglceiiiaaGreat
open Go.RowKit
set_option linter.unusedVariables false

/-- What a map says of a key. -/
def look (m : List (Int × Value)) (k : Int) : Option Value :=
  match m with
  | [] => none
  | p :: m => if p.1 == k then some p.2 else look m k
/-- A store. -/
def put (m : List (Int × Value)) (k : Int) (v : Value) : List (Int × Value) :=
  match m with
  | [] => [(k, v)]
  | p :: m => if p.1 == k then (k, v) :: m else p :: put m k v
/-- A delete. -/
def del (m : List (Int × Value)) (k : Int) : List (Int × Value) :=
  match m with
  | [] => []
  | p :: m => if p.1 == k then m else p :: del m k
/-- Where a key stands, and what is there. -/
def fnd (m : List (Int × Value)) (k : Int) (i : Nat) : Option (Nat × Value) :=
  match m with
  | [] => none
  | p :: m => if p.1 == k then some (i, p.2) else fnd m k (i + 1)

theorem look_put (m : List (Int × Value)) (k k' : Int) (v : Value) : look (put m k v) k' = if k' = k then some v else look m k' := by
  induction m with
  | nil =>
    by_cases h : k' = k
    · subst h; simp [put, look]
    · have : ¬ k = k' := fun e => h e.symm
      simp [put, look, h, this]
  | cons p m ih =>
    by_cases h1 : p.1 = k
    · by_cases h : k' = k
      · subst h; simp [put, look, h1]
      · have : ¬ k = k' := fun e => h e.symm
        simp [put, look, h1, h, this]
    · by_cases h : k' = k
      · subst h; simp [put, look, h1, ih]
      · simp only [put, look, beq_iff_eq, h1, if_false, ih, h]
theorem keys_put (m : List (Int × Value)) (k : Int) (v : Value) (x : Int) : x ∈ (put m k v).map (·.1) ↔ x = k ∨ x ∈ m.map (·.1) := by
  induction m with
  | nil => simp [put]
  | cons p m ih =>
    by_cases h1 : p.1 = k
    · simp [put, h1]
    · simp only [put, beq_iff_eq, h1, if_false, List.map_cons, List.mem_cons, ih]
      constructor
      · rintro (h | h | h) <;> simp [h]
      · rintro (h | h | h) <;> simp [h]
theorem nodup_put {m : List (Int × Value)} (h : (m.map (·.1)).Nodup) (k : Int) (v : Value) : ((put m k v).map (·.1)).Nodup := by
  induction m with
  | nil => simp [put]
  | cons p m ih =>
    obtain ⟨h1, h2⟩ := List.nodup_cons.1 h
    by_cases hp : p.1 = k
    · simp only [put, beq_iff_eq, hp, if_true, List.map_cons]
      exact List.nodup_cons.2 ⟨by rw [← hp]; exact h1, h2⟩
    · simp only [put, beq_iff_eq, hp, if_false, List.map_cons]
      refine List.nodup_cons.2 ⟨fun e => ?_, ih h2⟩
      rcases (keys_put m k v p.1).1 e with e | e
      · exact hp e
      · exact h1 e
theorem look_none {m : List (Int × Value)} {k : Int} (h : k ∉ m.map (·.1)) : look m k = none := by
  induction m with
  | nil => rfl
  | cons p m ih =>
    simp only [List.map_cons, List.mem_cons, not_or] at h
    have : ¬ p.1 = k := fun e => h.1 e.symm
    simp only [look, beq_iff_eq, this, if_false]
    exact ih h.2
theorem look_del {m : List (Int × Value)} (hn : (m.map (·.1)).Nodup) (k k' : Int) : look (del m k) k' = if k' = k then none else look m k' := by
  induction m with
  | nil => simp [del, look]
  | cons p m ih =>
    obtain ⟨h1, h2⟩ := List.nodup_cons.1 hn
    by_cases hp : p.1 = k
    · by_cases h : k' = k
      · subst h; simp only [del, beq_iff_eq, hp, if_true]; exact look_none (by rw [← hp]; exact h1)
      · have : ¬ k = k' := fun e => h e.symm
        simp [del, look, hp, h, this]
    · by_cases h : k' = k
      · subst h; simp only [del, look, beq_iff_eq, hp, if_false, ih h2, if_true]
      · simp only [del, look, beq_iff_eq, hp, if_false, ih h2, h]
theorem keys_del (m : List (Int × Value)) (k : Int) (x : Int) (h : x ∈ (del m k).map (·.1)) : x ∈ m.map (·.1) := by
  induction m with
  | nil => simp [del] at h
  | cons p m ih =>
    by_cases hp : p.1 = k
    · simp only [del, beq_iff_eq, hp, if_true] at h
      exact List.mem_cons_of_mem _ h
    · simp only [del, beq_iff_eq, hp, if_false, List.map_cons, List.mem_cons] at h
      rcases h with h | h
      · simp [h]
      · exact List.mem_cons_of_mem _ (ih h)
theorem nodup_del {m : List (Int × Value)} (h : (m.map (·.1)).Nodup) (k : Int) : ((del m k).map (·.1)).Nodup := by
  induction m with
  | nil => simp [del]
  | cons p m ih =>
    obtain ⟨h1, h2⟩ := List.nodup_cons.1 h
    by_cases hp : p.1 = k
    · simp only [del, beq_iff_eq, hp, if_true]; exact h2
    · simp only [del, beq_iff_eq, hp, if_false, List.map_cons]
      exact List.nodup_cons.2 ⟨fun e => h1 (keys_del m k p.1 e), ih h2⟩
theorem fnd_look (m : List (Int × Value)) (k : Int) (i : Nat) : (fnd m k i).map (·.2) = look m k := by
  induction m generalizing i with
  | nil => rfl
  | cons p m ih =>
    by_cases h : p.1 = k
    · simp [fnd, look, h]
    · simp only [fnd, look, beq_iff_eq, h, if_false]; exact ih _

/-- An entry as a pair. -/
def pairOf (e : MapEntry) : Value × Value := (e.key, e.val)
def pairIn (p : Int × Value) : Value × Value := (.int .i64 p.1, p.2)

theorem findNow_int (q : IntKind) (k : Int) : ∀ (es : List MapEntry) (m : List (Int × Value)) (i : Nat), es.map pairOf = m.map pairIn → Instr.findNow (.int q) (.int .i64 k) es i = some (fnd m k i)
  | [], [], _, _ => rfl
  | [], _ :: _, _, h => by simp at h
  | _ :: _, [], _, h => by simp at h
  | e :: es, p :: m, i, h => by
    simp only [List.map_cons, List.cons.injEq] at h
    obtain ⟨h1, h2⟩ := h
    have hk : e.key = .int .i64 p.1 := congrArg Prod.fst h1
    have hv : e.val = p.2 := congrArg Prod.snd h1
    have ih := findNow_int q k es m (i + 1) h2
    by_cases hp : p.1 = k
    · simp [Instr.findNow, Instr.sameNow, hk, fnd, hp, hv]
    · have hp' : ¬ k = p.1 := fun e => hp e.symm
      have e1 : (k == p.1) = false := by simpa using hp'
      have e2 : (p.1 == k) = false := by simpa using hp
      simp only [Instr.findNow, Instr.sameNow, hk, fnd, e1, e2, if_true]
      simpa using ih

theorem fnd_spec {m : List (Int × Value)} {k : Int} {i j : Nat} {v : Value} (h : fnd m k i = some (j, v)) : i ≤ j ∧ ∃ hj : j - i < m.length, m[j - i].1 = k ∧ m[j - i].2 = v := by
  induction m generalizing i with
  | nil => cases h
  | cons p m ih =>
    by_cases hp : p.1 = k
    · simp only [fnd, beq_iff_eq, hp, if_true, Option.some.injEq, Prod.mk.injEq] at h
      obtain ⟨rfl, rfl⟩ := h
      exact ⟨Nat.le_refl _, by simp, by simp [hp]⟩
    · simp only [fnd, beq_iff_eq, hp, if_false] at h
      obtain ⟨h1, hj, h2, h3⟩ := ih h
      refine ⟨by omega, by simp; omega, ?_⟩
      have e : j - i = (j - (i + 1)) + 1 := by omega
      simp only [e, List.getElem_cons_succ]
      exact ⟨h2, h3⟩
theorem put_hit {m : List (Int × Value)} {k : Int} {i j : Nat} {u v : Value} (h : fnd m k i = some (j, u)) : put m k v = m.set (j - i) (k, v) := by
  induction m generalizing i with
  | nil => cases h
  | cons p m ih =>
    by_cases hp : p.1 = k
    · simp only [fnd, beq_iff_eq, hp, if_true, Option.some.injEq, Prod.mk.injEq] at h
      obtain ⟨rfl, rfl⟩ := h
      simp [put, hp]
    · simp only [fnd, beq_iff_eq, hp, if_false] at h
      have h1 := (fnd_spec h).1
      have e : j - i = (j - (i + 1)) + 1 := by omega
      simp only [put, beq_iff_eq, hp, if_false, e, List.set_cons_succ, ih h]
theorem put_miss {m : List (Int × Value)} {k : Int} {i : Nat} {v : Value} (h : fnd m k i = none) : put m k v = m ++ [(k, v)] := by
  induction m generalizing i with
  | nil => rfl
  | cons p m ih =>
    by_cases hp : p.1 = k
    · simp [fnd, hp] at h
    · simp only [fnd, beq_iff_eq, hp, if_false] at h
      simp only [put, beq_iff_eq, hp, if_false, ih h, List.cons_append]
theorem del_hit {m : List (Int × Value)} {k : Int} {i j : Nat} {u : Value} (h : fnd m k i = some (j, u)) : del m k = m.eraseIdx (j - i) := by
  induction m generalizing i with
  | nil => cases h
  | cons p m ih =>
    by_cases hp : p.1 = k
    · simp only [fnd, beq_iff_eq, hp, if_true, Option.some.injEq, Prod.mk.injEq] at h
      obtain ⟨rfl, rfl⟩ := h
      simp [del, hp]
    · simp only [fnd, beq_iff_eq, hp, if_false] at h
      have h1 := (fnd_spec h).1
      have e : j - i = (j - (i + 1)) + 1 := by omega
      simp only [del, beq_iff_eq, hp, if_false, e, List.eraseIdx_cons_succ, ih h]
theorem del_miss {m : List (Int × Value)} {k : Int} {i : Nat} (h : fnd m k i = none) : del m k = m := by
  induction m generalizing i with
  | nil => rfl
  | cons p m ih =>
    by_cases hp : p.1 = k
    · simp [fnd, hp] at h
    · simp only [fnd, beq_iff_eq, hp, if_false] at h
      simp only [del, beq_iff_eq, hp, if_false, ih h]

theorem map_erase {α β : Type} (f : α → β) (l : List α) (i : Nat) : (l.eraseIdx i).map f = (l.map f).eraseIdx i := by
  induction l generalizing i with
  | nil => simp
  | cons a l ih => cases i with
    | zero => rfl
    | succ i => simp [ih]

/-- A map lies in a block. -/
def MpAt (w : World) (g : Nat) (m : List (Int × Value)) : Prop := (m.map (·.1)).Nodup ∧ ∃ es clock, w.heap[g]? = some (.map es clock) ∧ es.toList.map pairOf = m.map pairIn

theorem MpAt.of_block {w w' : World} {g : Nat} {m : List (Int × Value)} (h : MpAt w g m) (hb : w'.heap[g]? = w.heap[g]?) : MpAt w' g m := by
  obtain ⟨h1, es, c, h2, h3⟩ := h
  exact ⟨h1, es, c, hb.trans h2, h3⟩
theorem MpAt.lt {w : World} {g : Nat} {m : List (Int × Value)} (h : MpAt w g m) : g < w.heap.size := by
  obtain ⟨h1, es, c, h2, h3⟩ := h
  rcases Nat.lt_or_ge g w.heap.size with q | q
  · exact q
  · rw [Array.getElem?_eq_none q] at h2; cases h2
theorem MpAt.made (w : World) : MpAt (w.alloc (.map #[] 0)) w.heap.size [] := ⟨by simp, #[], 0, heap_alloc_new w _, rfl⟩
theorem MpAt.no_cell {w : World} {g : Nat} {m : List (Int × Value)} (h : MpAt w g m) (o : Nat) : w.cell? ⟨g, o, none⟩ = none := by
  obtain ⟨h1, es, c, h2, h3⟩ := h
  simp [World.cell?, h2]

section
variable {P : Program} {w : World} {g : Nat} {m : List (Int × Value)} {T K E : TypeId}

theorem checkKey_int (b : Bool) (hk : P.underlying K = some (.int .i64)) (k : Int) : (Instr.checkKey b 10000 K (.int .i64 k)).run P w = .ok () w := by
  exact MapKept.run_checkKey (d := .int .i64) (k := .int .i64 k) hk (show IntKind.i64 = IntKind.i64 from rfl) b 9999
theorem findKey_int (hk : P.underlying K = some (.int .i64)) (k : Int) {es : List MapEntry} (he : es.map pairOf = m.map pairIn) : (Instr.findKey K (.int .i64 k) es).run P w = .ok (fnd m k 0) w := by
  simp [Instr.findKey, run_underlying hk, findNow_int .i64 k es m 0 he]

theorem run_look_some (h : MpAt w g m) (ht : P.underlying T = some (.map K E)) (hk : P.underlying K = some (.int .i64)) {k : Int} {v : Value} (hv : look m k = some v) :
    (Instr.lookup T (.map (some g)) (.int .i64 k) true).run P w = .ok (.tuple #[v, .bool true]) w ∧ (Instr.lookup T (.map (some g)) (.int .i64 k) false).run P w = .ok v w := by
  obtain ⟨_, es, c, hb, he⟩ := h
  have hf := fnd_look m k 0
  rw [hv] at hf
  cases hq : fnd m k 0 with
  | none => rw [hq] at hf; cases hf
  | some x =>
    obtain ⟨j, u⟩ := x
    rw [hq] at hf
    simp at hf
    subst hf
    constructor <;> simp [Instr.lookup, run_underlying ht, MapKept.run_getObj_map hb, checkKey_int _ hk, findKey_int hk k he, hq, Result.andThen]
theorem run_look_none (h : MpAt w g m) (ht : P.underlying T = some (.map K E)) (hk : P.underlying K = some (.int .i64)) {z : Value} (hz : (zeroValue E).run P w = .ok z w) {k : Int} (hv : look m k = none) :
    (Instr.lookup T (.map (some g)) (.int .i64 k) true).run P w = .ok (.tuple #[z, .bool false]) w ∧ (Instr.lookup T (.map (some g)) (.int .i64 k) false).run P w = .ok z w := by
  obtain ⟨_, es, c, hb, he⟩ := h
  have hf := fnd_look m k 0
  rw [hv] at hf
  cases hq : fnd m k 0 with
  | some x => rw [hq] at hf; cases hf
  | none => constructor <;> simp [Instr.lookup, run_underlying ht, MapKept.run_getObj_map hb, checkKey_int _ hk, findKey_int hk k he, hq, Result.andThen, hz]

/-- A world with another map in a block. -/
def setMap (w : World) (g : Nat) (o : Obj) : World := { w with heap := w.heap.setIfInBounds g o }

theorem setMap_get {w : World} {g : Nat} (h : g < w.heap.size) (o : Obj) : (setMap w g o).heap[g]? = some o := by simp [setMap, h]

theorem sameBits_int (n : Nat) (k : Int) : Instr.sameBits n (.int .i64 k) (.int .i64 k) = true := by
  cases n <;> simp [Instr.sameBits]

theorem run_put (h : MpAt w g m) (ht : P.underlying T = some (.map K E)) (hk : P.underlying K = some (.int .i64)) (k : Int) (v : Value) :
    ∃ o, (Instr.mapUpdate T (.map (some g)) (.int .i64 k) v).run P w = .ok () (setMap w g o) ∧ MpAt (setMap w g o) g (put m k v) := by
  have hlt := h.lt
  obtain ⟨hn, es, c, hb, he⟩ := h
  cases hq : fnd m k 0 with
  | none =>
    refine ⟨.map (es.push { key := .int .i64 k, val := v, born := c }) (c + 1), ?_, nodup_put hn k v, es.push { key := .int .i64 k, val := v, born := c }, c + 1, setMap_get hlt _, ?_⟩
    · simp [Instr.mapUpdate, run_underlying ht, MapKept.run_getObj_map hb, checkKey_int _ hk, findKey_int hk k he, hq, Result.andThen, MapKept.run_setObj_map _ hb, setMap]
    · rw [put_miss hq]; simp [he, pairOf, pairIn]
  | some x =>
    obtain ⟨j, u⟩ := x
    obtain ⟨_, hj, h1, h2⟩ := fnd_spec hq
    simp only [Nat.sub_zero] at hj h1 h2
    have hle : es.size = m.length := by have := congrArg List.length he; simpa using this
    have hjs : j < es.size := by omega
    have hkey : es[j].key = .int .i64 k := by
      have := congrArg (fun l : List (Value × Value) => l[j]?) he
      simp [hjs, hj, pairOf, pairIn] at this
      rw [this.1, h1]
    refine ⟨.map (es.modify j fun e => { e with key := .int .i64 k, val := v }) c, ?_, nodup_put hn k v, es.modify j (fun e => { e with key := .int .i64 k, val := v }), c, setMap_get hlt _, ?_⟩
    · have hget : es[j]? = some es[j] := by simp [hjs]
      simp [Instr.mapUpdate, run_underlying ht, MapKept.run_getObj_map hb, checkKey_int _ hk, findKey_int hk k he, hq, Result.andThen, MapKept.run_setObj_map _ hb, setMap, hjs, hkey, Instr.keyThatStays, sameBits_int]
    · rw [put_hit hq]
      apply List.ext_getElem
      · simp [hle]
      · intro i hi1 hi2
        have hi : i < es.size := by simpa using hi1
        have hold := congrArg (fun l : List (Value × Value) => l[i]?) he
        have him : i < m.length := by omega
        simp [hi, him] at hold
        by_cases e : j = i
        · subst e; simp [pairOf, pairIn]
        · simp [pairIn, e, hold]
theorem run_del (h : MpAt w g m) (ht : P.underlying T = some (.map K E)) (hk : P.underlying K = some (.int .i64)) (k : Int) (ty ty2 : TypeId) :
    ∃ o, (Builtin.delete_ #[T, ty2] ty #[.map (some g), .int .i64 k]).run P w = .ok (.tuple #[]) (setMap w g o) ∧ MpAt (setMap w g o) g (del m k) := by
  have hlt := h.lt
  obtain ⟨hn, es, c, hb, he⟩ := h
  have hle : es.size = m.length := by have := congrArg List.length he; simpa using this
  cases hq : fnd m k 0 with
  | none =>
    refine ⟨.map es c, ?_, nodup_del hn k, es, c, setMap_get hlt _, ?_⟩
    · simp [Builtin.delete_, run_underlying ht, MapKept.run_getObj_map hb, checkKey_int _ hk, findKey_int hk k he, hq, Result.andThen, MapKept.run_setObj_map _ hb, setMap]
    · rw [del_miss hq]; exact he
  | some x =>
    obtain ⟨j, u⟩ := x
    obtain ⟨_, hj, h1, h2⟩ := fnd_spec hq
    simp only [Nat.sub_zero] at hj
    have hjs : j < es.size := by omega
    refine ⟨.map (es.eraseIdxIfInBounds j) c, ?_, nodup_del hn k, es.eraseIdxIfInBounds j, c, setMap_get hlt _, ?_⟩
    · simp [Builtin.delete_, run_underlying ht, MapKept.run_getObj_map hb, checkKey_int _ hk, findKey_int hk k he, hq, Result.andThen, MapKept.run_setObj_map _ hb, setMap]
    · rw [del_hit hq]
      have : (es.eraseIdxIfInBounds j).toList = es.toList.eraseIdx j := by simp [Array.eraseIdxIfInBounds, hjs]
      rw [this]
      simp only [Nat.sub_zero]
      rw [map_erase, map_erase, he]
end
end Go.Proofs.YtkkkldglceiiiaaGreat
