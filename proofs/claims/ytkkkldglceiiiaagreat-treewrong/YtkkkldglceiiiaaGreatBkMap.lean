/- Maps whatever their keys, as lists of pairs in the order in which they came; look-ups, stores, deletes, and going over one in whatever order. No program in sight. -/
import Derived.WalkKit
import Derived.MapKept
import Derived.Below
import Derived.Maps.RangeRun
import Derived.Maps.RangeWalk
namespace Go.Proofs.YtkkkldglceiiiaaGreat
open Go.RowKit
open Go.ChangeMaps (setBlock)
set_option linter.unusedVariables false

section
variable {κ : Type} [DecidableEq κ]

/-- What a list of pairs says of a key. -/
def lookK (m : List (κ × Value)) (k : κ) : Option Value :=
  match m with
  | [] => none
  | p :: m => if p.1 = k then some p.2 else lookK m k
def fndK (m : List (κ × Value)) (k : κ) (i : Nat) : Option (Nat × Value) :=
  match m with
  | [] => none
  | p :: m => if p.1 = k then some (i, p.2) else fndK m k (i + 1)
theorem fndK_look (m : List (κ × Value)) (k : κ) (i : Nat) : (fndK m k i).map (·.2) = lookK m k := by
  induction m generalizing i with
  | nil => rfl
  | cons p m ih =>
    by_cases h : p.1 = k
    · simp [fndK, lookK, h]
    · simp only [fndK, lookK, h, if_false]; exact ih _
theorem lookK_none {m : List (κ × Value)} {k : κ} : lookK m k = none ↔ k ∉ m.map (·.1) := by
  induction m with
  | nil => simp [lookK]
  | cons p m ih =>
    by_cases h : p.1 = k
    · simp [lookK, h]
    · have : ¬ k = p.1 := fun e => h e.symm
      simp only [lookK, h, if_false, ih, List.map_cons, List.mem_cons, this, false_or]
theorem lookK_some {m : List (κ × Value)} {k : κ} {v : Value} (h : lookK m k = some v) : (k, v) ∈ m := by
  induction m with
  | nil => cases h
  | cons p m ih =>
    by_cases hp : p.1 = k
    · simp only [lookK, hp, if_true, Option.some.injEq] at h
      subst hp; subst h; simp
    · simp only [lookK, hp, if_false] at h
      exact List.mem_cons_of_mem _ (ih h)
theorem lookK_mem {m : List (κ × Value)} (hn : (m.map (·.1)).Nodup) {k : κ} {v : Value} (h : (k, v) ∈ m) : lookK m k = some v := by
  induction m with
  | nil => cases h
  | cons p m ih =>
    obtain ⟨h1, h2⟩ := List.nodup_cons.1 hn
    have h1 : p.1 ∉ m.map (·.1) := h1
    rcases List.mem_cons.1 h with e | h
    · subst e; simp [lookK]
    · have : ¬ p.1 = k := fun e => h1 (by rw [e]; exact List.mem_map.2 ⟨(k, v), h, rfl⟩)
      simp only [lookK, this, if_false]; exact ih h2 h
theorem fndK_spec {m : List (κ × Value)} {k : κ} {i j : Nat} {v : Value} (h : fndK m k i = some (j, v)) : i ≤ j ∧ ∃ hj : j - i < m.length, m[j - i].1 = k ∧ m[j - i].2 = v := by
  induction m generalizing i with
  | nil => cases h
  | cons p m ih =>
    by_cases hp : p.1 = k
    · simp only [fndK, hp, if_true, Option.some.injEq, Prod.mk.injEq] at h
      obtain ⟨rfl, rfl⟩ := h
      exact ⟨Nat.le_refl _, by simp, by simp [hp]⟩
    · simp only [fndK, hp, if_false] at h
      obtain ⟨h1, hj, h2, h3⟩ := ih h
      refine ⟨by omega, by simp; omega, ?_⟩
      have e : j - i = (j - (i + 1)) + 1 := by omega
      simp only [e, List.getElem_cons_succ]
      exact ⟨h2, h3⟩
theorem eraseK_filter {m : List (κ × Value)} (hn : (m.map (·.1)).Nodup) {j : Nat} (hj : j < m.length) : m.eraseIdx j = m.filter (fun p => p.1 ≠ m[j].1) := by
  induction m generalizing j with
  | nil => simp at hj
  | cons p m ih =>
    obtain ⟨h1, h2⟩ := List.nodup_cons.1 hn
    have h1 : p.1 ∉ m.map (·.1) := h1
    cases j with
    | zero =>
      have : m.filter (fun q => decide (q.1 ≠ p.1)) = m := List.filter_eq_self.2 (fun q hq => by
        have : q.1 ≠ p.1 := fun e => h1 (by rw [← e]; exact List.mem_map.2 ⟨q, hq, rfl⟩)
        simpa using this)
      simp only [List.eraseIdx_cons_zero, List.getElem_cons_zero]
      rw [List.filter_cons_of_neg (by simp)]
      exact this.symm
    | succ j =>
      have hj' : j < m.length := by simpa using hj
      have hne : p.1 ≠ m[j].1 := fun e => h1 (by rw [e]; exact List.mem_map.2 ⟨m[j], List.getElem_mem _, rfl⟩)
      simp only [List.eraseIdx_cons_succ, List.getElem_cons_succ]
      rw [List.filter_cons_of_pos (by simpa using hne), ← ih h2 hj']
end
section
variable {κ : Type}
/-- The keys of a type: what a key is as a value, and what the machine does with it. -/
structure KeyT [DecidableEq κ] (P : Program) (K : TypeId) (kv : κ → Value) : Prop where
  find : ∀ (w : World) (k : κ) (es : List MapEntry) (m : List (κ × Value)), es.map (fun e => (e.key, e.val)) = m.map (fun p => (kv p.1, p.2)) → (Instr.findKey K (kv k) es).run P w = .ok (fndK m k 0) w
  check : ∀ (w : World) (b : Bool) (k : κ), (Instr.checkKey b 10000 K (kv k)).run P w = .ok () w
  inj : ∀ a b, kv a = kv b → a = b
theorem findAsk_struct [DecidableEq κ] {P : Program} {K : TypeId} {kv : κ → Value} (heq : ∀ a b w, (Op.equal K (kv a) (kv b)).run P w = .ok (decide (a = b)) w) (w : World) (k : κ) :
    ∀ (es : List MapEntry) (m : List (κ × Value)) (i : Nat), es.map (fun e => (e.key, e.val)) = m.map (fun p => (kv p.1, p.2)) → (Instr.findAsking K (kv k) es i).run P w = .ok (fndK m k i) w
  | [], [], i, _ => by simp [Instr.findAsking, fndK]
  | [], _ :: _, _, h => by simp at h
  | _ :: _, [], _, h => by simp at h
  | e :: es, p :: m, i, h => by
    simp only [List.map_cons, List.cons.injEq] at h
    obtain ⟨h1, h2⟩ := h
    have hk : e.key = kv p.1 := congrArg Prod.fst h1
    have hv : e.val = p.2 := congrArg Prod.snd h1
    have ih := findAsk_struct heq w k es m (i + 1) h2
    by_cases hp : p.1 = k
    · have e1 : (k = p.1) := hp.symm
      simp [Instr.findAsking, hk, hv, heq, fndK, hp, Result.andThen]
    · have e1 : ¬ (k = p.1) := fun e => hp e.symm
      simp [Instr.findAsking, hk, heq, fndK, hp, e1, Result.andThen, ih]
theorem find_struct [DecidableEq κ] {P : Program} {K : TypeId} {fs : Array Field} {kv : κ → Value} (hu : P.underlying K = some (.struct fs)) (ha : ∀ a, ∃ xs, kv a = .agg xs) (heq : ∀ a b w, (Op.equal K (kv a) (kv b)).run P w = .ok (decide (a = b)) w)
    (w : World) (k : κ) (es : List MapEntry) (m : List (κ × Value)) (h : es.map (fun e => (e.key, e.val)) = m.map (fun p => (kv p.1, p.2))) : (Instr.findKey K (kv k) es).run P w = .ok (fndK m k 0) w := by
  cases es with
  | nil =>
    cases m with
    | nil => simp [Instr.findKey, run_underlying hu, Instr.findNow, fndK, Result.andThen]
    | cons p m => simp at h
  | cons e es =>
    obtain ⟨xs, hx⟩ := ha k
    have hn : Instr.findNow (.struct fs) (kv k) (e :: es) 0 = none := by
      rw [hx]; simp [Instr.findNow, Instr.sameNow]
    have := findAsk_struct heq w k (e :: es) m 0 h
    simp [Instr.findKey, run_underlying hu, hn, Result.andThen, this]
/-- A map in a block: its pairs in the order in which they came; the stamps of its entries rise. -/
def MpK (kv : κ → Value) (w : World) (g : Nat) (m : List (κ × Value)) : Prop :=
  (m.map (·.1)).Nodup ∧ ∃ es clock, w.heap[g]? = some (.map es clock) ∧ es.toList.map (fun e => (e.key, e.val)) = m.map (fun p => (kv p.1, p.2)) ∧ es.toList.Pairwise (fun a b => a.born < b.born) ∧ ∀ e ∈ es.toList, e.born < clock
variable {kv : κ → Value}
theorem MpK.of_block {w w' : World} {g : Nat} {m : List (κ × Value)} (h : MpK kv w g m) (hb : w'.heap[g]? = w.heap[g]?) : MpK kv w' g m := by
  obtain ⟨h1, es, c, h2, h3⟩ := h
  exact ⟨h1, es, c, hb.trans h2, h3⟩
theorem MpK.lt {w : World} {g : Nat} {m : List (κ × Value)} (h : MpK kv w g m) : g < w.heap.size := by
  obtain ⟨h1, es, c, h2, h3⟩ := h
  rcases Nat.lt_or_ge g w.heap.size with q | q
  · exact q
  · rw [Array.getElem?_eq_none q] at h2; cases h2
theorem MpK.made (w : World) : MpK kv (w.alloc (.map #[] 0)) w.heap.size [] := ⟨by simp, #[], 0, heap_alloc_new w _, rfl, by simp, by simp⟩
theorem MpK.no_cell {w : World} {g : Nat} {m : List (κ × Value)} (h : MpK kv w g m) (o : Nat) : w.cell? ⟨g, o, none⟩ = none := by
  obtain ⟨h1, es, c, h2, h3⟩ := h
  simp [World.cell?, h2]
section
variable {P : Program} {w : World} {g : Nat} {m : List (κ × Value)} {T K E : TypeId}
theorem MpK.look_some [DecidableEq κ] (h : MpK kv w g m) (hK : KeyT P K kv) (ht : P.underlying T = some (.map K E)) {k : κ} {v : Value} (hv : lookK m k = some v) :
    (Instr.lookup T (.map (some g)) (kv k) true).run P w = .ok (.tuple #[v, .bool true]) w ∧ (Instr.lookup T (.map (some g)) (kv k) false).run P w = .ok v w := by
  obtain ⟨_, es, c, hb, he, _⟩ := h
  have hf := fndK_look m k 0
  rw [hv] at hf
  cases hq : fndK m k 0 with
  | none => rw [hq] at hf; cases hf
  | some x =>
    obtain ⟨j, u⟩ := x
    rw [hq] at hf
    simp at hf
    subst hf
    constructor <;> simp [Instr.lookup, run_underlying ht, MapKept.run_getObj_map hb, hK.check, hK.find w k _ m he, hq, Result.andThen]
theorem MpK.look_none [DecidableEq κ] (h : MpK kv w g m) (hK : KeyT P K kv) (ht : P.underlying T = some (.map K E)) {z : Value} (hz : (zeroValue E).run P w = .ok z w) {k : κ} (hv : lookK m k = none) :
    (Instr.lookup T (.map (some g)) (kv k) true).run P w = .ok (.tuple #[z, .bool false]) w ∧ (Instr.lookup T (.map (some g)) (kv k) false).run P w = .ok z w := by
  obtain ⟨_, es, c, hb, he, _⟩ := h
  have hf := fndK_look m k 0
  rw [hv] at hf
  cases hq : fndK m k 0 with
  | some x => rw [hq] at hf; cases hf
  | none => constructor <;> simp [Instr.lookup, run_underlying ht, MapKept.run_getObj_map hb, hK.check, hK.find w k _ m he, hq, Result.andThen, hz]
theorem setB_get {w : World} {g : Nat} (h : g < w.heap.size) (o : Obj) : (setBlock w g o).heap[g]? = some o := by simp [setBlock, h]
theorem setB_other {w : World} {g b : Nat} (h : b ≠ g) (o : Obj) : (setBlock w g o).heap[b]? = w.heap[b]? := by simp [setBlock, Array.getElem?_setIfInBounds_ne (Ne.symm h)]
theorem setB_size (w : World) (g : Nat) (o : Obj) : (setBlock w g o).heap.size = w.heap.size := by simp [setBlock]
/-- A new key. -/
theorem MpK.put [DecidableEq κ] (h : MpK kv w g m) (hK : KeyT P K kv) (ht : P.underlying T = some (.map K E)) {k : κ} (hv : lookK m k = none) (v : Value) :
    ∃ o, (Instr.mapUpdate T (.map (some g)) (kv k) v).run P w = .ok () (setBlock w g o) ∧ MpK kv (setBlock w g o) g (m ++ [(k, v)]) := by
  have hlt := h.lt
  obtain ⟨hn, es, c, hb, he, hp, hc⟩ := h
  have hf := fndK_look m k 0
  rw [hv] at hf
  cases hq : fndK m k 0 with
  | some x => rw [hq] at hf; cases hf
  | none =>
    refine ⟨.map (es.push { key := kv k, val := v, born := c }) (c + 1), ?_, ?_, es.push { key := kv k, val := v, born := c }, c + 1, setB_get hlt _, ?_, ?_, ?_⟩
    · simp [Instr.mapUpdate, run_underlying ht, MapKept.run_getObj_map hb, hK.check, hK.find w k _ m he, hq, Result.andThen, MapKept.run_setObj_map _ hb, setBlock]
    · rw [List.map_append]
      refine List.nodup_append.2 ⟨hn, by simp, ?_⟩
      intro a ha b hb2
      simp at hb2
      subst hb2
      intro e
      subst e
      exact lookK_none.1 hv ha
    · simp [he]
    · simp only [Array.toList_push]
      refine List.pairwise_append.2 ⟨hp, by simp, fun a ha b hb2 => ?_⟩
      simp at hb2
      subst hb2
      exact hc a ha
    · intro e he2
      simp only [Array.toList_push, List.mem_append, List.mem_singleton] at he2
      rcases he2 with q | q
      · have := hc e q; omega
      · subst q; simp
/-- A key that is there goes. -/
theorem MpK.del [DecidableEq κ] (h : MpK kv w g m) (hK : KeyT P K kv) (ht : P.underlying T = some (.map K E)) (k : κ) (ty ty2 : TypeId) :
    ∃ o, (Builtin.delete_ #[T, ty2] ty #[.map (some g), kv k]).run P w = .ok (.tuple #[]) (setBlock w g o) ∧ MpK kv (setBlock w g o) g (m.filter (fun p => p.1 ≠ k)) := by
  have hlt := h.lt
  obtain ⟨hn, es, c, hb, he, hp, hc⟩ := h
  have hle : es.size = m.length := by have := congrArg List.length he; simpa using this
  have hf := fndK_look m k 0
  cases hq : fndK m k 0 with
  | none =>
    rw [hq] at hf
    have hk := lookK_none.1 hf.symm
    have e : m.filter (fun p => decide (p.1 ≠ k)) = m := List.filter_eq_self.2 (fun p hp => by
      have : p.1 ≠ k := fun e => hk (by rw [← e]; exact List.mem_map.2 ⟨p, hp, rfl⟩)
      simpa using this)
    refine ⟨.map es c, ?_, by rw [e]; exact hn, es, c, setB_get hlt _, by rw [e]; exact he, hp, hc⟩
    simp [Builtin.delete_, run_underlying ht, MapKept.run_getObj_map hb, hK.check, hK.find w k _ m he, hq, Result.andThen, MapKept.run_setObj_map _ hb, setBlock]
  | some x =>
    obtain ⟨j, u⟩ := x
    obtain ⟨_, hj, h1, h2⟩ := fndK_spec hq
    simp only [Nat.sub_zero] at hj h1
    have hjs : j < es.size := by omega
    have e : m.filter (fun p => decide (p.1 ≠ k)) = m.eraseIdx j := by rw [eraseK_filter hn hj, h1]
    have hl : (es.eraseIdxIfInBounds j).toList = es.toList.eraseIdx j := by simp [Array.eraseIdxIfInBounds, hjs]
    refine ⟨.map (es.eraseIdxIfInBounds j) c, ?_, ?_, es.eraseIdxIfInBounds j, c, setB_get hlt _, ?_, ?_, ?_⟩
    · simp [Builtin.delete_, run_underlying ht, MapKept.run_getObj_map hb, hK.check, hK.find w k _ m he, hq, Result.andThen, MapKept.run_setObj_map _ hb, setBlock]
    · exact hn.sublist (List.Sublist.map _ (List.filter_sublist))
    · rw [hl, e, Go.ChangeMaps.map_eraseIdx, Go.ChangeMaps.map_eraseIdx, he]
    · rw [hl]; exact hp.sublist (List.eraseIdx_sublist _ _)
    · intro e2 he2
      rw [hl] at he2
      exact hc e2 (List.mem_of_mem_eraseIdx he2)
theorem MpK.len (h : MpK kv w g m) (ht : P.underlying T = some (.map K E)) (ty : TypeId) : (Builtin.len_ #[T] ty #[.map (some g)]).run P w = .ok (.int .i64 m.length) w := by
  obtain ⟨hn, es, c, hb, he, hp, hc⟩ := h
  have hle : es.size = m.length := by have := congrArg List.length he; simpa using this
  simp [Builtin.len_, run_underlying ht, MapKept.run_getObj_map hb, goInt, hle, Result.andThen]
/-- Going over a map: D has the keys that came already. -/
structure ItK (kv : κ → Value) (w : World) (g r : Nat) (m : List (κ × Value)) (D : List κ) : Prop where
  nodup : (m.map (·.1)).Nodup
  ne : r ≠ g
  ex : ∃ es clock since seen c0, w.heap[g]? = some (.map es clock) ∧ w.heap[r]? = some (.mapIter (some g) since seen c0) ∧ es.toList.map (fun e => (e.key, e.val)) = m.map (fun p => (kv p.1, p.2)) ∧
    es.toList.Pairwise (fun a b => a.born < b.born) ∧ (∀ e ∈ es.toList, e.born < clock) ∧ (∀ e ∈ es.toList, e.born < since) ∧ since ≤ c0 ∧ since ≤ clock ∧
    ∀ (i : Nat) (hi : i < es.toList.length) (hm : i < m.length), seen.contains es.toList[i].born = true ↔ m[i].1 ∈ D
theorem ItK.mp {r : Nat} {D : List κ} (h : ItK kv w g r m D) : MpK kv w g m := by
  obtain ⟨hn, _, es, clock, since, seen, c0, h1, h2, h3, h4, h5, _⟩ := h
  exact ⟨hn, es, clock, h1, h3, h4, h5⟩
theorem ItK.of_blocks {w' : World} {r : Nat} {D : List κ} (h : ItK kv w g r m D) (hg : w'.heap[g]? = w.heap[g]?) (hr : w'.heap[r]? = w.heap[r]?) : ItK kv w' g r m D := by
  obtain ⟨hn, ne, es, clock, since, seen, c0, h1, h2, h3⟩ := h
  exact ⟨hn, ne, es, clock, since, seen, c0, hg.trans h1, hr.trans h2, h3⟩
theorem ItK.lt {r : Nat} {D : List κ} (h : ItK kv w g r m D) : r < w.heap.size := by
  obtain ⟨hn, ne, es, clock, since, seen, c0, h1, h2, h3⟩ := h
  rcases Nat.lt_or_ge r w.heap.size with q | q
  · exact q
  · rw [Array.getElem?_eq_none q] at h2; cases h2
/-- It begins. -/
theorem MpK.start (h : MpK kv w g m) (ht : P.underlying T = some (.map K E)) : ∃ o, (Instr.range T (.map (some g))).run P w = .ok (.pointer (some ⟨w.heap.size, 0, none⟩)) (w.alloc o) ∧ ItK kv (w.alloc o) g w.heap.size m [] := by
  have hlt := h.lt
  obtain ⟨hn, es, c, hb, he, hp, hc⟩ := h
  refine ⟨.mapIter (some g) c #[] c, ?_, hn, by omega, es, c, c, #[], c, ?_, heap_alloc_new w _, he, hp, hc, hc, Nat.le_refl _, Nat.le_refl _, fun i hi hm => by simp⟩
  · simp [Instr.range, run_underlying ht, MapKept.run_getObj_map hb, Result.andThen, newObj]
    rfl
  · rw [Below.heap_alloc _ _ _ hlt]; exact hb
theorem map_at {es : List MapEntry} (he : es.map (fun e => (e.key, e.val)) = m.map (fun p => (kv p.1, p.2))) {i : Nat} (hi : i < es.length) (hm : i < m.length) : es[i].key = kv m[i].1 ∧ es[i].val = m[i].2 := by
  have := congrArg (fun l : List (Value × Value) => l[i]?) he
  simp [hi, hm] at this
  exact this
theorem born_inj {es : List MapEntry} (hp : es.Pairwise (fun a b => a.born < b.born)) {i j : Nat} (hi : i < es.length) (hj : j < es.length) (e : es[i].born = es[j].born) : i = j := by
  rcases Nat.lt_trichotomy i j with q | q | q
  · have := (List.pairwise_iff_getElem.1 hp) i j hi hj q; omega
  · exact q
  · have := (List.pairwise_iff_getElem.1 hp) j i hj hi q; omega
/-- The next step: all came, or one that did not comes. -/
theorem ItK.next {r : Nat} {D : List κ} (h : ItK kv w g r m D) :
    ((∀ p ∈ m, p.1 ∈ D) ∧ ∀ ty, (Instr.next (.pointer (some ⟨r, 0, none⟩)) false ty).run P w = .ok (.tuple #[.bool false]) w) ∨
    ∃ k v w', (k, v) ∈ m ∧ k ∉ D ∧ (∀ ty, (Instr.next (.pointer (some ⟨r, 0, none⟩)) false ty).run P w = .ok (.tuple #[.bool true, kv k, v]) w') ∧ ItK kv w' g r m (D ++ [k]) ∧
      (Instr.entry (.pointer (some ⟨r, 0, none⟩))).run P w' = .ok (.tuple #[kv k, v]) w' ∧ (∃ w1 o, (w1 = w ∨ w1 = w.drew) ∧ w' = setBlock w1 r o) := by
  have hlt := h.lt
  obtain ⟨hn, ne, es, clock, since, seen, c0, hb, hr, he, hp, hc, hs, s1, s2, hd⟩ := h
  have hle : es.toList.length = m.length := by have := congrArg List.length he; simpa using this
  have hnb : (es.toList.map (·.born)).Nodup := by
    refine List.pairwise_map.2 (hp.imp (fun {a b} q => ?_))
    show a.born ≠ b.born
    omega
  rcases run_next_at (P := P) w 0 r g since c0 seen es clock hr hb hs s1 with ⟨h0, hrun⟩ | ⟨e, hmem, w1, hw1, hrun⟩
  · refine .inl ⟨fun p hpm => ?_, fun ty => hrun⟩
    obtain ⟨i, hi, rfl⟩ := List.getElem_of_mem hpm
    have hi' : i < es.toList.length := by omega
    refine (hd i hi' hi).1 ?_
    cases hcn : seen.contains es.toList[i].born with
    | true => rfl
    | false =>
      exfalso
      have : es.toList[i] ∈ (leftOf es seen).toList := by
        unfold leftOf
        simp only [Array.toList_filter, List.mem_filter]
        exact ⟨List.getElem_mem _, by rw [hcn]; rfl⟩
      have hz : (leftOf es seen).toList.length = 0 := by simpa using h0
      rw [List.eq_nil_of_length_eq_zero hz] at this
      cases this
  · right
    obtain ⟨h1, h2⟩ := mem_left hmem
    obtain ⟨i, hi, rfl⟩ := List.getElem_of_mem h1
    have him : i < m.length := by omega
    obtain ⟨ek, ev⟩ := map_at he hi him
    have hkD : m[i].1 ∉ D := fun q => by
      have := (hd i hi him).2 q
      rw [h2] at this; cases this
    have hw1b : ∀ b, w1.heap[b]? = w.heap[b]? := fun (b : Nat) => by rcases hw1 with e | e <;> rw [e] <;> rfl
    have hw1s : w1.heap.size = w.heap.size := by rcases hw1 with e | e <;> rw [e] <;> rfl
    have hr1 : (setBlock w1 r (.mapIter (some g) since (seen.push es.toList[i].born) clock)).heap[r]? = some (.mapIter (some g) since (seen.push es.toList[i].born) clock) := setB_get (by omega) _
    have hb1 : (setBlock w1 r (.mapIter (some g) since (seen.push es.toList[i].born) clock)).heap[g]? = some (.map es clock) := by
      rw [setB_other (Ne.symm ne), hw1b]; exact hb
    refine ⟨m[i].1, m[i].2, _, List.getElem_mem _, hkD, ?_, ⟨hn, ne, es, clock, since, seen.push es.toList[i].born, clock, hb1, hr1, he, hp, hc, hs, s2, s2, ?_⟩, ?_, w1, _, hw1, rfl⟩
    · intro ty; rw [← ek, ← ev]; exact hrun
    · intro j hj hjm
      rw [List.mem_append, List.mem_singleton]
      have hcp : (seen.push es.toList[i].born).contains es.toList[j].born = true ↔ (seen.contains es.toList[j].born = true ∨ es.toList[j].born = es.toList[i].born) := by
        simp
      rw [hcp, hd j hj hjm]
      constructor
      · rintro (q | q)
        · exact .inl q
        · have := born_inj hp hj hi q
          subst this; exact .inr rfl
      · rintro (q | q)
        · exact .inl q
        · have : j = i := by
            have hnm : (m.map (·.1)).Nodup := hn
            have h3 : (m.map (·.1))[j]'(by simpa using hjm) = (m.map (·.1))[i]'(by simpa using him) := by simpa using q
            exact (List.getElem_inj hnm).1 h3
          subst this; exact .inr rfl
    · rw [← ek, ← ev]
      exact run_entry_at _ r g since seen es clock es.toList[i] hr1 hb1 h1 hnb
/-- One that came goes, while it is gone over. -/
theorem ItK.del [DecidableEq κ] {r : Nat} {D : List κ} (h : ItK kv w g r m D) (hK : KeyT P K kv) (ht : P.underlying T = some (.map K E)) {k : κ} (hk : k ∈ D) (ty ty2 : TypeId) :
    ∃ o, (Builtin.delete_ #[T, ty2] ty #[.map (some g), kv k]).run P w = .ok (.tuple #[]) (setBlock w g o) ∧ ItK kv (setBlock w g o) g r (m.filter (fun p => p.1 ≠ k)) D := by
  have hlt := h.mp.lt
  obtain ⟨hn, ne, es, clock, since, seen, c0, hb, hr, he, hp, hc, hs, s1, s2, hd⟩ := h
  have hle : es.size = m.length := by have := congrArg List.length he; simpa using this
  have hle2 : es.toList.length = m.length := by simpa using hle
  have hf := fndK_look m k 0
  cases hq : fndK m k 0 with
  | none =>
    rw [hq] at hf
    have hk2 := lookK_none.1 hf.symm
    have e : m.filter (fun p => decide (p.1 ≠ k)) = m := List.filter_eq_self.2 (fun p hp => by
      have : p.1 ≠ k := fun e => hk2 (by rw [← e]; exact List.mem_map.2 ⟨p, hp, rfl⟩)
      simpa using this)
    refine ⟨.map es clock, ?_, ?_⟩
    · simp [Builtin.delete_, run_underlying ht, MapKept.run_getObj_map hb, hK.check, hK.find w k _ m he, hq, Result.andThen, MapKept.run_setObj_map _ hb, setBlock]
    · rw [e]
      exact ⟨hn, ne, es, clock, since, seen, c0, setB_get hlt _, by rw [setB_other ne]; exact hr, he, hp, hc, hs, s1, s2, hd⟩
  | some x =>
    obtain ⟨j, u⟩ := x
    obtain ⟨_, hj, h1, h2⟩ := fndK_spec hq
    simp only [Nat.sub_zero] at hj h1
    have hjs : j < es.size := by omega
    have e : m.filter (fun p => decide (p.1 ≠ k)) = m.eraseIdx j := by rw [eraseK_filter hn hj, h1]
    have hl : (es.eraseIdxIfInBounds j).toList = es.toList.eraseIdx j := by simp [Array.eraseIdxIfInBounds, hjs]
    refine ⟨.map (es.eraseIdxIfInBounds j) clock, ?_, ?_⟩
    · simp [Builtin.delete_, run_underlying ht, MapKept.run_getObj_map hb, hK.check, hK.find w k _ m he, hq, Result.andThen, MapKept.run_setObj_map _ hb, setBlock]
    · rw [e]
      refine ⟨?_, ne, es.eraseIdxIfInBounds j, clock, since, seen, c0, setB_get hlt _, by rw [setB_other ne]; exact hr, ?_, ?_, ?_, ?_, s1, s2, ?_⟩
      · exact hn.sublist (List.Sublist.map _ (List.eraseIdx_sublist _ _))
      · rw [hl, Go.ChangeMaps.map_eraseIdx, Go.ChangeMaps.map_eraseIdx, he]
      · rw [hl]; exact hp.sublist (List.eraseIdx_sublist _ _)
      · intro e2 he2; rw [hl] at he2; exact hc e2 (List.mem_of_mem_eraseIdx he2)
      · intro e2 he2; rw [hl] at he2; exact hs e2 (List.mem_of_mem_eraseIdx he2)
      · intro i hi hm
        rw [hl] at hi
        have hi2 : i < (es.toList.eraseIdx j).length := hi
        have hm2 : i < (m.eraseIdx j).length := hm
        rw [List.length_eraseIdx] at hi2 hm2
        simp only [hl]
        rw [List.getElem_eraseIdx, List.getElem_eraseIdx]
        split at hi2
        · split
          · exact hd i (by omega) (by omega)
          · exact hd (i + 1) (by omega) (by omega)
        · rename_i q; exact absurd (by simpa using hjs) q
end
end
end Go.Proofs.YtkkkldglceiiiaaGreat
