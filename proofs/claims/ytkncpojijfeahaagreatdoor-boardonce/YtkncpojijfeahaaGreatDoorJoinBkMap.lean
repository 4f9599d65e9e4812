/- Maps whatever their keys, as lists of pairs in the order in which they came; look-ups, stores, deletes, and going over one in whatever order. No program in sight. -/
import Derived.WalkKit
import Derived.MapKept
import Derived.Below
import Derived.Maps.RangeRun
import Derived.Maps.RangeWalk
import Derived.Test.YtkncpojijfeahaaGreatDoorRows
import Derived.ProofKit
import Derived.OpenShut
import Derived.WalkLawsBesides
set_option linter.unnecessarySimpa false
namespace Go.Proofs.YtkncpojijfeahaaGreatDoor
open Go.RowKit
open Go.ChangeMaps (setBlock)
set_option linter.unusedVariables false

section
variable {κ : Type} [DecidableEq κ]

/-- What a list of pairs says of a key. -/
def lookK (m : List (κ × Value)) (k : κ) : Option Value :=
  match m with
  | [] => none
  | p :: m => if p.1 = k then some p.2 else lookK m k
def fndK (m : List (κ × Value)) (k : κ) (i : Nat) : Option (Nat × Value) :=
  match m with
  | [] => none
  | p :: m => if p.1 = k then some (i, p.2) else fndK m k (i + 1)
theorem fndK_look (m : List (κ × Value)) (k : κ) (i : Nat) : (fndK m k i).map (·.2) = lookK m k := by
  induction m generalizing i with
  | nil => rfl
  | cons p m ih =>
    by_cases h : p.1 = k
    · simp [fndK, lookK, h]
    · simp only [fndK, lookK, h, if_false]; exact ih _
theorem lookK_none {m : List (κ × Value)} {k : κ} : lookK m k = none ↔ k ∉ m.map (·.1) := by
  induction m with
  | nil => simp [lookK]
  | cons p m ih =>
    by_cases h : p.1 = k
    · simp [lookK, h]
    · have : ¬ k = p.1 := fun e => h e.symm
      simp only [lookK, h, if_false, ih, List.map_cons, List.mem_cons, this, false_or]
theorem lookK_some {m : List (κ × Value)} {k : κ} {v : Value} (h : lookK m k = some v) : (k, v) ∈ m := by
  induction m with
  | nil => cases h
  | cons p m ih =>
    by_cases hp : p.1 = k
    · simp only [lookK, hp, if_true, Option.some.injEq] at h
      subst hp; subst h; simp
    · simp only [lookK, hp, if_false] at h
      exact List.mem_cons_of_mem _ (ih h)
theorem lookK_mem {m : List (κ × Value)} (hn : (m.map (·.1)).Nodup) {k : κ} {v : Value} (h : (k, v) ∈ m) : lookK m k = some v := by
  induction m with
  | nil => cases h
  | cons p m ih =>
    obtain ⟨h1, h2⟩ := List.nodup_cons.1 hn
    have h1 : p.1 ∉ m.map (·.1) := h1
    rcases List.mem_cons.1 h with e | h
    · subst e; simp [lookK]
    · have : ¬ p.1 = k := fun e => h1 (by rw [e]; exact List.mem_map.2 ⟨(k, v), h, rfl⟩)
      simp only [lookK, this, if_false]; exact ih h2 h
theorem fndK_spec {m : List (κ × Value)} {k : κ} {i j : Nat} {v : Value} (h : fndK m k i = some (j, v)) : i ≤ j ∧ ∃ hj : j - i < m.length, m[j - i].1 = k ∧ m[j - i].2 = v := by
  induction m generalizing i with
  | nil => cases h
  | cons p m ih =>
    by_cases hp : p.1 = k
    · simp only [fndK, hp, if_true, Option.some.injEq, Prod.mk.injEq] at h
      obtain ⟨rfl, rfl⟩ := h
      exact ⟨Nat.le_refl _, by simp, by simp [hp]⟩
    · simp only [fndK, hp, if_false] at h
      obtain ⟨h1, hj, h2, h3⟩ := ih h
      refine ⟨by omega, by simp; omega, ?_⟩
      have e : j - i = (j - (i + 1)) + 1 := by omega
      simp only [e, List.getElem_cons_succ]
      exact ⟨h2, h3⟩
theorem eraseK_filter {m : List (κ × Value)} (hn : (m.map (·.1)).Nodup) {j : Nat} (hj : j < m.length) : m.eraseIdx j = m.filter (fun p => p.1 ≠ m[j].1) := by
  induction m generalizing j with
  | nil => simp at hj
  | cons p m ih =>
    obtain ⟨h1, h2⟩ := List.nodup_cons.1 hn
    have h1 : p.1 ∉ m.map (·.1) := h1
    cases j with
    | zero =>
      have : m.filter (fun q => decide (q.1 ≠ p.1)) = m := List.filter_eq_self.2 (fun q hq => by
        have : q.1 ≠ p.1 := fun e => h1 (by rw [← e]; exact List.mem_map.2 ⟨q, hq, rfl⟩)
        simpa using this)
      simp only [List.eraseIdx_cons_zero, List.getElem_cons_zero]
      rw [List.filter_cons_of_neg (by simp)]
      exact this.symm
    | succ j =>
      have hj' : j < m.length := by simpa using hj
      have hne : p.1 ≠ m[j].1 := fun e => h1 (by rw [e]; exact List.mem_map.2 ⟨m[j], List.getElem_mem _, rfl⟩)
      simp only [List.eraseIdx_cons_succ, List.getElem_cons_succ]
      rw [List.filter_cons_of_pos (by simpa using hne), ← ih h2 hj']
end
section
variable {κ : Type}
/-- The keys of a type: what a key is as a value, and what the machine does with it. -/
structure KeyT [DecidableEq κ] (P : Program) (K : TypeId) (kv : κ → Value) : Prop where
  find : ∀ (w : World) (k : κ) (es : List MapEntry) (m : List (κ × Value)), es.map (fun e => (e.key, e.val)) = m.map (fun p => (kv p.1, p.2)) → (Instr.findKey K (kv k) es).run P w = .ok (fndK m k 0) w
  check : ∀ (w : World) (b : Bool) (k : κ), (Instr.checkKey b 10000 K (kv k)).run P w = .ok () w
  inj : ∀ a b, kv a = kv b → a = b
theorem findAsk_struct [DecidableEq κ] {P : Program} {K : TypeId} {kv : κ → Value} (heq : ∀ a b w, (Op.equal K (kv a) (kv b)).run P w = .ok (decide (a = b)) w) (w : World) (k : κ) :
    ∀ (es : List MapEntry) (m : List (κ × Value)) (i : Nat), es.map (fun e => (e.key, e.val)) = m.map (fun p => (kv p.1, p.2)) → (Instr.findAsking K (kv k) es i).run P w = .ok (fndK m k i) w
  | [], [], i, _ => by simp [Instr.findAsking, fndK]
  | [], _ :: _, _, h => by simp at h
  | _ :: _, [], _, h => by simp at h
  | e :: es, p :: m, i, h => by
    simp only [List.map_cons, List.cons.injEq] at h
    obtain ⟨h1, h2⟩ := h
    have hk : e.key = kv p.1 := congrArg Prod.fst h1
    have hv : e.val = p.2 := congrArg Prod.snd h1
    have ih := findAsk_struct heq w k es m (i + 1) h2
    by_cases hp : p.1 = k
    · have e1 : (k = p.1) := hp.symm
      simp [Instr.findAsking, hk, hv, heq, fndK, hp, Result.andThen]
    · have e1 : ¬ (k = p.1) := fun e => hp e.symm
      simp [Instr.findAsking, hk, heq, fndK, hp, e1, Result.andThen, ih]
theorem find_struct [DecidableEq κ] {P : Program} {K : TypeId} {fs : Array Field} {kv : κ → Value} (hu : P.underlying K = some (.struct fs)) (ha : ∀ a, ∃ xs, kv a = .agg xs) (heq : ∀ a b w, (Op.equal K (kv a) (kv b)).run P w = .ok (decide (a = b)) w)
    (w : World) (k : κ) (es : List MapEntry) (m : List (κ × Value)) (h : es.map (fun e => (e.key, e.val)) = m.map (fun p => (kv p.1, p.2))) : (Instr.findKey K (kv k) es).run P w = .ok (fndK m k 0) w := by
  cases es with
  | nil =>
    cases m with
    | nil => simp [Instr.findKey, run_underlying hu, Instr.findNow, fndK, Result.andThen]
    | cons p m => simp at h
  | cons e es =>
    obtain ⟨xs, hx⟩ := ha k
    have hn : Instr.findNow (.struct fs) (kv k) (e :: es) 0 = none := by
      rw [hx]; simp [Instr.findNow, Instr.sameNow]
    have := findAsk_struct heq w k (e :: es) m 0 h
    simp [Instr.findKey, run_underlying hu, hn, Result.andThen, this]
/-- A map in a block: its pairs in the order in which they came; the stamps of its entries rise. -/
def MpK (kv : κ → Value) (w : World) (g : Nat) (m : List (κ × Value)) : Prop :=
  (m.map (·.1)).Nodup ∧ ∃ es clock, w.heap[g]? = some (.map es clock) ∧ es.toList.map (fun e => (e.key, e.val)) = m.map (fun p => (kv p.1, p.2)) ∧ es.toList.Pairwise (fun a b => a.born < b.born) ∧ ∀ e ∈ es.toList, e.born < clock
variable {kv : κ → Value}
theorem MpK.of_block {w w' : World} {g : Nat} {m : List (κ × Value)} (h : MpK kv w g m) (hb : w'.heap[g]? = w.heap[g]?) : MpK kv w' g m := by
  obtain ⟨h1, es, c, h2, h3⟩ := h
  exact ⟨h1, es, c, hb.trans h2, h3⟩
theorem MpK.lt {w : World} {g : Nat} {m : List (κ × Value)} (h : MpK kv w g m) : g < w.heap.size := by
  obtain ⟨h1, es, c, h2, h3⟩ := h
  rcases Nat.lt_or_ge g w.heap.size with q | q
  · exact q
  · rw [Array.getElem?_eq_none q] at h2; cases h2
theorem MpK.made (w : World) : MpK kv (w.alloc (.map #[] 0)) w.heap.size [] := ⟨by simp, #[], 0, heap_alloc_new w _, rfl, by simp, by simp⟩
theorem MpK.no_cell {w : World} {g : Nat} {m : List (κ × Value)} (h : MpK kv w g m) (o : Nat) : w.cell? ⟨g, o, none⟩ = none := by
  obtain ⟨h1, es, c, h2, h3⟩ := h
  simp [World.cell?, h2]
section
variable {P : Program} {w : World} {g : Nat} {m : List (κ × Value)} {T K E : TypeId}
theorem MpK.look_some [DecidableEq κ] (h : MpK kv w g m) (hK : KeyT P K kv) (ht : P.underlying T = some (.map K E)) {k : κ} {v : Value} (hv : lookK m k = some v) :
    (Instr.lookup T (.map (some g)) (kv k) true).run P w = .ok (.tuple #[v, .bool true]) w ∧ (Instr.lookup T (.map (some g)) (kv k) false).run P w = .ok v w := by
  obtain ⟨_, es, c, hb, he, _⟩ := h
  have hf := fndK_look m k 0
  rw [hv] at hf
  cases hq : fndK m k 0 with
  | none => rw [hq] at hf; cases hf
  | some x =>
    obtain ⟨j, u⟩ := x
    rw [hq] at hf
    simp at hf
    subst hf
    constructor <;> simp [Instr.lookup, run_underlying ht, MapKept.run_getObj_map hb, hK.check, hK.find w k _ m he, hq, Result.andThen]
theorem MpK.look_none [DecidableEq κ] (h : MpK kv w g m) (hK : KeyT P K kv) (ht : P.underlying T = some (.map K E)) {z : Value} (hz : (zeroValue E).run P w = .ok z w) {k : κ} (hv : lookK m k = none) :
    (Instr.lookup T (.map (some g)) (kv k) true).run P w = .ok (.tuple #[z, .bool false]) w ∧ (Instr.lookup T (.map (some g)) (kv k) false).run P w = .ok z w := by
  obtain ⟨_, es, c, hb, he, _⟩ := h
  have hf := fndK_look m k 0
  rw [hv] at hf
  cases hq : fndK m k 0 with
  | some x => rw [hq] at hf; cases hf
  | none => constructor <;> simp [Instr.lookup, run_underlying ht, MapKept.run_getObj_map hb, hK.check, hK.find w k _ m he, hq, Result.andThen, hz]
theorem setB_get {w : World} {g : Nat} (h : g < w.heap.size) (o : Obj) : (setBlock w g o).heap[g]? = some o := by simp [setBlock, h]
theorem setB_other {w : World} {g b : Nat} (h : b ≠ g) (o : Obj) : (setBlock w g o).heap[b]? = w.heap[b]? := by simp [setBlock, Array.getElem?_setIfInBounds_ne (Ne.symm h)]
theorem setB_size (w : World) (g : Nat) (o : Obj) : (setBlock w g o).heap.size = w.heap.size := by simp [setBlock]
/-- A new key. -/
theorem MpK.put [DecidableEq κ] (h : MpK kv w g m) (hK : KeyT P K kv) (ht : P.underlying T = some (.map K E)) {k : κ} (hv : lookK m k = none) (v : Value) :
    ∃ o, (Instr.mapUpdate T (.map (some g)) (kv k) v).run P w = .ok () (setBlock w g o) ∧ MpK kv (setBlock w g o) g (m ++ [(k, v)]) := by
  have hlt := h.lt
  obtain ⟨hn, es, c, hb, he, hp, hc⟩ := h
  have hf := fndK_look m k 0
  rw [hv] at hf
  cases hq : fndK m k 0 with
  | some x => rw [hq] at hf; cases hf
  | none =>
    refine ⟨.map (es.push { key := kv k, val := v, born := c }) (c + 1), ?_, ?_, es.push { key := kv k, val := v, born := c }, c + 1, setB_get hlt _, ?_, ?_, ?_⟩
    · simp [Instr.mapUpdate, run_underlying ht, MapKept.run_getObj_map hb, hK.check, hK.find w k _ m he, hq, Result.andThen, MapKept.run_setObj_map _ hb, setBlock]
    · rw [List.map_append]
      refine List.nodup_append.2 ⟨hn, by simp, ?_⟩
      intro a ha b hb2
      simp at hb2
      subst hb2
      intro e
      subst e
      exact lookK_none.1 hv ha
    · simp [he]
    · simp only [Array.toList_push]
      refine List.pairwise_append.2 ⟨hp, by simp, fun a ha b hb2 => ?_⟩
      simp at hb2
      subst hb2
      exact hc a ha
    · intro e he2
      simp only [Array.toList_push, List.mem_append, List.mem_singleton] at he2
      rcases he2 with q | q
      · have := hc e q; omega
      · subst q; simp
/-- A key that is there goes. -/
theorem MpK.del [DecidableEq κ] (h : MpK kv w g m) (hK : KeyT P K kv) (ht : P.underlying T = some (.map K E)) (k : κ) (ty ty2 : TypeId) :
    ∃ o, (Builtin.delete_ #[T, ty2] ty #[.map (some g), kv k]).run P w = .ok (.tuple #[]) (setBlock w g o) ∧ MpK kv (setBlock w g o) g (m.filter (fun p => p.1 ≠ k)) := by
  have hlt := h.lt
  obtain ⟨hn, es, c, hb, he, hp, hc⟩ := h
  have hle : es.size = m.length := by have := congrArg List.length he; simpa using this
  have hf := fndK_look m k 0
  cases hq : fndK m k 0 with
  | none =>
    rw [hq] at hf
    have hk := lookK_none.1 hf.symm
    have e : m.filter (fun p => decide (p.1 ≠ k)) = m := List.filter_eq_self.2 (fun p hp => by
      have : p.1 ≠ k := fun e => hk (by rw [← e]; exact List.mem_map.2 ⟨p, hp, rfl⟩)
      simpa using this)
    refine ⟨.map es c, ?_, by rw [e]; exact hn, es, c, setB_get hlt _, by rw [e]; exact he, hp, hc⟩
    simp [Builtin.delete_, run_underlying ht, MapKept.run_getObj_map hb, hK.check, hK.find w k _ m he, hq, Result.andThen, MapKept.run_setObj_map _ hb, setBlock]
  | some x =>
    obtain ⟨j, u⟩ := x
    obtain ⟨_, hj, h1, h2⟩ := fndK_spec hq
    simp only [Nat.sub_zero] at hj h1
    have hjs : j < es.size := by omega
    have e : m.filter (fun p => decide (p.1 ≠ k)) = m.eraseIdx j := by rw [eraseK_filter hn hj, h1]
    have hl : (es.eraseIdxIfInBounds j).toList = es.toList.eraseIdx j := by simp [Array.eraseIdxIfInBounds, hjs]
    refine ⟨.map (es.eraseIdxIfInBounds j) c, ?_, ?_, es.eraseIdxIfInBounds j, c, setB_get hlt _, ?_, ?_, ?_⟩
    · simp [Builtin.delete_, run_underlying ht, MapKept.run_getObj_map hb, hK.check, hK.find w k _ m he, hq, Result.andThen, MapKept.run_setObj_map _ hb, setBlock]
    · exact hn.sublist (List.Sublist.map _ (List.filter_sublist))
    · rw [hl, e, Go.ChangeMaps.map_eraseIdx, Go.ChangeMaps.map_eraseIdx, he]
    · rw [hl]; exact hp.sublist (List.eraseIdx_sublist _ _)
    · intro e2 he2
      rw [hl] at he2
      exact hc e2 (List.mem_of_mem_eraseIdx he2)
theorem MpK.len (h : MpK kv w g m) (ht : P.underlying T = some (.map K E)) (ty : TypeId) : (Builtin.len_ #[T] ty #[.map (some g)]).run P w = .ok (.int .i64 m.length) w := by
  obtain ⟨hn, es, c, hb, he, hp, hc⟩ := h
  have hle : es.size = m.length := by have := congrArg List.length he; simpa using this
  simp [Builtin.len_, run_underlying ht, MapKept.run_getObj_map hb, goInt, hle, Result.andThen]
/-- Going over a map: D has the keys that came already. -/
structure ItK (kv : κ → Value) (w : World) (g r : Nat) (m : List (κ × Value)) (D : List κ) : Prop where
  nodup : (m.map (·.1)).Nodup
  ne : r ≠ g
  ex : ∃ es clock since seen c0, w.heap[g]? = some (.map es clock) ∧ w.heap[r]? = some (.mapIter (some g) since seen c0) ∧ es.toList.map (fun e => (e.key, e.val)) = m.map (fun p => (kv p.1, p.2)) ∧
    es.toList.Pairwise (fun a b => a.born < b.born) ∧ (∀ e ∈ es.toList, e.born < clock) ∧ (∀ e ∈ es.toList, e.born < since) ∧ since ≤ c0 ∧ since ≤ clock ∧
    ∀ (i : Nat) (hi : i < es.toList.length) (hm : i < m.length), seen.contains es.toList[i].born = true ↔ m[i].1 ∈ D
theorem ItK.mp {r : Nat} {D : List κ} (h : ItK kv w g r m D) : MpK kv w g m := by
  obtain ⟨hn, _, es, clock, since, seen, c0, h1, h2, h3, h4, h5, _⟩ := h
  exact ⟨hn, es, clock, h1, h3, h4, h5⟩
theorem ItK.of_blocks {w' : World} {r : Nat} {D : List κ} (h : ItK kv w g r m D) (hg : w'.heap[g]? = w.heap[g]?) (hr : w'.heap[r]? = w.heap[r]?) : ItK kv w' g r m D := by
  obtain ⟨hn, ne, es, clock, since, seen, c0, h1, h2, h3⟩ := h
  exact ⟨hn, ne, es, clock, since, seen, c0, hg.trans h1, hr.trans h2, h3⟩
theorem ItK.lt {r : Nat} {D : List κ} (h : ItK kv w g r m D) : r < w.heap.size := by
  obtain ⟨hn, ne, es, clock, since, seen, c0, h1, h2, h3⟩ := h
  rcases Nat.lt_or_ge r w.heap.size with q | q
  · exact q
  · rw [Array.getElem?_eq_none q] at h2; cases h2
/-- It begins. -/
theorem MpK.start (h : MpK kv w g m) (ht : P.underlying T = some (.map K E)) : ∃ o, (Instr.range T (.map (some g))).run P w = .ok (.pointer (some ⟨w.heap.size, 0, none⟩)) (w.alloc o) ∧ ItK kv (w.alloc o) g w.heap.size m [] := by
  have hlt := h.lt
  obtain ⟨hn, es, c, hb, he, hp, hc⟩ := h
  refine ⟨.mapIter (some g) c #[] c, ?_, hn, by omega, es, c, c, #[], c, ?_, heap_alloc_new w _, he, hp, hc, hc, Nat.le_refl _, Nat.le_refl _, fun i hi hm => by simp⟩
  · simp [Instr.range, run_underlying ht, MapKept.run_getObj_map hb, Result.andThen, newObj]
    rfl
  · rw [Below.heap_alloc _ _ _ hlt]; exact hb
theorem map_at {es : List MapEntry} (he : es.map (fun e => (e.key, e.val)) = m.map (fun p => (kv p.1, p.2))) {i : Nat} (hi : i < es.length) (hm : i < m.length) : es[i].key = kv m[i].1 ∧ es[i].val = m[i].2 := by
  have := congrArg (fun l : List (Value × Value) => l[i]?) he
  simp [hi, hm] at this
  exact this
theorem born_inj {es : List MapEntry} (hp : es.Pairwise (fun a b => a.born < b.born)) {i j : Nat} (hi : i < es.length) (hj : j < es.length) (e : es[i].born = es[j].born) : i = j := by
  rcases Nat.lt_trichotomy i j with q | q | q
  · have := (List.pairwise_iff_getElem.1 hp) i j hi hj q; omega
  · exact q
  · have := (List.pairwise_iff_getElem.1 hp) j i hj hi q; omega
/-- The next step: all came, or one that did not comes. -/
theorem ItK.next {r : Nat} {D : List κ} (h : ItK kv w g r m D) :
    ((∀ p ∈ m, p.1 ∈ D) ∧ ∀ ty, (Instr.next (.pointer (some ⟨r, 0, none⟩)) false ty).run P w = .ok (.tuple #[.bool false]) w) ∨
    ∃ k v w', (k, v) ∈ m ∧ k ∉ D ∧ (∀ ty, (Instr.next (.pointer (some ⟨r, 0, none⟩)) false ty).run P w = .ok (.tuple #[.bool true, kv k, v]) w') ∧ ItK kv w' g r m (D ++ [k]) ∧
      (Instr.entry (.pointer (some ⟨r, 0, none⟩))).run P w' = .ok (.tuple #[kv k, v]) w' ∧ (∃ w1 o, (w1 = w ∨ w1 = w.drew) ∧ w' = setBlock w1 r o) := by
  have hlt := h.lt
  obtain ⟨hn, ne, es, clock, since, seen, c0, hb, hr, he, hp, hc, hs, s1, s2, hd⟩ := h
  have hle : es.toList.length = m.length := by have := congrArg List.length he; simpa using this
  have hnb : (es.toList.map (·.born)).Nodup := by
    refine List.pairwise_map.2 (hp.imp (fun {a b} q => ?_))
    show a.born ≠ b.born
    omega
  rcases run_next_at (P := P) w 0 r g since c0 seen es clock hr hb hs s1 with ⟨h0, hrun⟩ | ⟨e, hmem, w1, hw1, hrun⟩
  · refine .inl ⟨fun p hpm => ?_, fun ty => hrun⟩
    obtain ⟨i, hi, rfl⟩ := List.getElem_of_mem hpm
    have hi' : i < es.toList.length := by omega
    refine (hd i hi' hi).1 ?_
    cases hcn : seen.contains es.toList[i].born with
    | true => rfl
    | false =>
      exfalso
      have : es.toList[i] ∈ (leftOf es seen).toList := by
        unfold leftOf
        simp only [Array.toList_filter, List.mem_filter]
        exact ⟨List.getElem_mem _, by rw [hcn]; rfl⟩
      have hz : (leftOf es seen).toList.length = 0 := by simpa using h0
      rw [List.eq_nil_of_length_eq_zero hz] at this
      cases this
  · right
    obtain ⟨h1, h2⟩ := mem_left hmem
    obtain ⟨i, hi, rfl⟩ := List.getElem_of_mem h1
    have him : i < m.length := by omega
    obtain ⟨ek, ev⟩ := map_at he hi him
    have hkD : m[i].1 ∉ D := fun q => by
      have := (hd i hi him).2 q
      rw [h2] at this; cases this
    have hw1b : ∀ b, w1.heap[b]? = w.heap[b]? := fun (b : Nat) => by rcases hw1 with e | e <;> rw [e] <;> rfl
    have hw1s : w1.heap.size = w.heap.size := by rcases hw1 with e | e <;> rw [e] <;> rfl
    have hr1 : (setBlock w1 r (.mapIter (some g) since (seen.push es.toList[i].born) clock)).heap[r]? = some (.mapIter (some g) since (seen.push es.toList[i].born) clock) := setB_get (by omega) _
    have hb1 : (setBlock w1 r (.mapIter (some g) since (seen.push es.toList[i].born) clock)).heap[g]? = some (.map es clock) := by
      rw [setB_other (Ne.symm ne), hw1b]; exact hb
    refine ⟨m[i].1, m[i].2, _, List.getElem_mem _, hkD, ?_, ⟨hn, ne, es, clock, since, seen.push es.toList[i].born, clock, hb1, hr1, he, hp, hc, hs, s2, s2, ?_⟩, ?_, w1, _, hw1, rfl⟩
    · intro ty; rw [← ek, ← ev]; exact hrun
    · intro j hj hjm
      rw [List.mem_append, List.mem_singleton]
      have hcp : (seen.push es.toList[i].born).contains es.toList[j].born = true ↔ (seen.contains es.toList[j].born = true ∨ es.toList[j].born = es.toList[i].born) := by
        simp
      rw [hcp, hd j hj hjm]
      constructor
      · rintro (q | q)
        · exact .inl q
        · have := born_inj hp hj hi q
          subst this; exact .inr rfl
      · rintro (q | q)
        · exact .inl q
        · have : j = i := by
            have hnm : (m.map (·.1)).Nodup := hn
            have h3 : (m.map (·.1))[j]'(by simpa using hjm) = (m.map (·.1))[i]'(by simpa using him) := by simpa using q
            exact (List.getElem_inj hnm).1 h3
          subst this; exact .inr rfl
    · rw [← ek, ← ev]
      exact run_entry_at _ r g since seen es clock es.toList[i] hr1 hb1 h1 hnb
/-- One that came goes, while it is gone over. -/
theorem ItK.del [DecidableEq κ] {r : Nat} {D : List κ} (h : ItK kv w g r m D) (hK : KeyT P K kv) (ht : P.underlying T = some (.map K E)) {k : κ} (hk : k ∈ D) (ty ty2 : TypeId) :
    ∃ o, (Builtin.delete_ #[T, ty2] ty #[.map (some g), kv k]).run P w = .ok (.tuple #[]) (setBlock w g o) ∧ ItK kv (setBlock w g o) g r (m.filter (fun p => p.1 ≠ k)) D := by
  have hlt := h.mp.lt
  obtain ⟨hn, ne, es, clock, since, seen, c0, hb, hr, he, hp, hc, hs, s1, s2, hd⟩ := h
  have hle : es.size = m.length := by have := congrArg List.length he; simpa using this
  have hle2 : es.toList.length = m.length := by simpa using hle
  have hf := fndK_look m k 0
  cases hq : fndK m k 0 with
  | none =>
    rw [hq] at hf
    have hk2 := lookK_none.1 hf.symm
    have e : m.filter (fun p => decide (p.1 ≠ k)) = m := List.filter_eq_self.2 (fun p hp => by
      have : p.1 ≠ k := fun e => hk2 (by rw [← e]; exact List.mem_map.2 ⟨p, hp, rfl⟩)
      simpa using this)
    refine ⟨.map es clock, ?_, ?_⟩
    · simp [Builtin.delete_, run_underlying ht, MapKept.run_getObj_map hb, hK.check, hK.find w k _ m he, hq, Result.andThen, MapKept.run_setObj_map _ hb, setBlock]
    · rw [e]
      exact ⟨hn, ne, es, clock, since, seen, c0, setB_get hlt _, by rw [setB_other ne]; exact hr, he, hp, hc, hs, s1, s2, hd⟩
  | some x =>
    obtain ⟨j, u⟩ := x
    obtain ⟨_, hj, h1, h2⟩ := fndK_spec hq
    simp only [Nat.sub_zero] at hj h1
    have hjs : j < es.size := by omega
    have e : m.filter (fun p => decide (p.1 ≠ k)) = m.eraseIdx j := by rw [eraseK_filter hn hj, h1]
    have hl : (es.eraseIdxIfInBounds j).toList = es.toList.eraseIdx j := by simp [Array.eraseIdxIfInBounds, hjs]
    refine ⟨.map (es.eraseIdxIfInBounds j) clock, ?_, ?_⟩
    · simp [Builtin.delete_, run_underlying ht, MapKept.run_getObj_map hb, hK.check, hK.find w k _ m he, hq, Result.andThen, MapKept.run_setObj_map _ hb, setBlock]
    · rw [e]
      refine ⟨?_, ne, es.eraseIdxIfInBounds j, clock, since, seen, c0, setB_get hlt _, by rw [setB_other ne]; exact hr, ?_, ?_, ?_, ?_, s1, s2, ?_⟩
      · exact hn.sublist (List.Sublist.map _ (List.eraseIdx_sublist _ _))
      · rw [hl, Go.ChangeMaps.map_eraseIdx, Go.ChangeMaps.map_eraseIdx, he]
      · rw [hl]; exact hp.sublist (List.eraseIdx_sublist _ _)
      · intro e2 he2; rw [hl] at he2; exact hc e2 (List.mem_of_mem_eraseIdx he2)
      · intro e2 he2; rw [hl] at he2; exact hs e2 (List.mem_of_mem_eraseIdx he2)
      · intro i hi hm
        rw [hl] at hi
        have hi2 : i < (es.toList.eraseIdx j).length := hi
        have hm2 : i < (m.eraseIdx j).length := hm
        rw [List.length_eraseIdx] at hi2 hm2
        simp only [hl]
        rw [List.getElem_eraseIdx, List.getElem_eraseIdx]
        split at hi2
        · split
          · exact hd i (by omega) (by omega)
          · exact hd (i + 1) (by omega) (by omega)
        · rename_i q; exact absurd (by simpa using hjs) q
end
end
end Go.Proofs.YtkncpojijfeahaaGreatDoor

/- Small equations between endings and values. -/
namespace Go.Proofs.YtkncpojijfeahaaGreatDoor
open Go.RowKit
theorem ret_i {k : IntKind} {a b : Int} (h : a = b) : Ending.returned (.int k a) = .returned (.int k b) := by rw [h]
theorem ret_b {a b : Bool} (h : a = b) : Ending.returned (.bool a) = .returned (.bool b) := by rw [h]
theorem ret_s {a b : ByteArray} (h : a = b) : Ending.returned (.string a) = .returned (.string b) := by rw [h]
theorem int_eq {k : IntKind} {a b : Int} (h : a = b) : Value.int k a = Value.int k b := by rw [h]

theorem take_snoc (s : ByteArray) (k : Nat) (h : k < s.size) : s.data.toList.take (k + 1) = s.data.toList.take k ++ [s[k]] := by
  rw [List.take_succ_eq_append_getElem (by simpa using h)]; rfl

/-- At most n bytes. -/
def cut (s : ByteArray) (n : Nat) : ByteArray := if n < s.size then s.extract 0 n else s
theorem cut_size (s : ByteArray) (n : Nat) : (cut s n).size ≤ n := by
  unfold cut; split
  · simp; omega
  · omega
end Go.Proofs.YtkncpojijfeahaaGreatDoor

/- Rows of things of k cells each, as lists. No program in sight. -/
namespace Go.Proofs.YtkncpojijfeahaaGreatDoor
open Go.RowKit

section
variable {α : Type} (enc : α → List Value) (k : Nat) (hk : ∀ a, (enc a).length = k)
include hk
theorem flat_len (l : List α) : (l.flatMap enc).length = l.length * k := by
  induction l with
  | nil => simp
  | cons a l ih => rw [List.flatMap_cons, List.length_append, hk, ih, List.length_cons, Nat.add_mul]; omega
theorem flat_get (d : α) (l : List α) (i j : Nat) (hi : i < l.length) (hj : j < k) : (l.flatMap enc)[i * k + j]? = (enc (l.getD i d))[j]? := by
  induction l generalizing i with
  | nil => simp at hi
  | cons u us ih =>
    rw [List.flatMap_cons]
    cases i with
    | zero => rw [List.getElem?_append_left (by rw [hk]; omega)]; simp
    | succ i =>
      rw [List.getElem?_append_right (by rw [hk, Nat.add_mul]; omega), hk]
      have e : (i + 1) * k + j - k = i * k + j := by rw [Nat.add_mul]; omega
      rw [e, ih i (by simpa using hi)]
      simp
theorem flat_take (l : List α) (i : Nat) : (l.flatMap enc).take (i * k) = (l.take i).flatMap enc := by
  induction l generalizing i with
  | nil => simp
  | cons u us ih =>
    cases i with
    | zero => simp
    | succ i =>
      have e : (i + 1) * k = (enc u).length + i * k := by rw [hk, Nat.add_mul]; omega
      rw [List.flatMap_cons, e, List.take_length_add_append, ih, List.take_succ_cons, List.flatMap_cons]
theorem flat_drop (l : List α) (i : Nat) : (l.flatMap enc).drop (i * k) = (l.drop i).flatMap enc := by
  induction l generalizing i with
  | nil => simp
  | cons u us ih =>
    cases i with
    | zero => simp
    | succ i =>
      have e : (i + 1) * k = (enc u).length + i * k := by rw [hk, Nat.add_mul]; omega
      rw [List.flatMap_cons, e, List.drop_length_add_append, ih, List.drop_succ_cons]
end
end Go.Proofs.YtkncpojijfeahaaGreatDoor

/- Schemas, events and filters as plain lists: which are in form, which filter takes which event. No program in sight. -/
namespace Go.Proofs.YtkncpojijfeahaaGreatDoor
open Go.RowKit

/-- A call's answer is a bool: is P true? -/
def Says (e : Ending) (P : Prop) : Prop := ∃ b, e = .returned (.bool b) ∧ (b = true ↔ P)
theorem Says.yes {P : Prop} (h : P) : Says (.returned (.bool true)) P := ⟨true, rfl, by simp [h]⟩
theorem Says.no {P : Prop} (h : ¬ P) : Says (.returned (.bool false)) P := ⟨false, rfl, by simp [h]⟩
theorem Says.dec {P Q : Prop} [Decidable Q] (h : Q ↔ P) : Says (.returned (.bool (decide Q))) P := ⟨_, rfl, by simpa using h⟩
theorem Says.iff {e : Ending} {P Q : Prop} (h : Says e P) (g : P ↔ Q) : Says e Q := by obtain ⟨b, e, hb⟩ := h; exact ⟨b, e, hb.trans g⟩

structure At where
  name : ByteArray
  kind : Int
  mn : Int
  mx : Int
structure Vl where
  num : Int
  str : ByteArray
structure Pd where
  name : ByteArray
  op : Int
  lo : Int
  hi : Int
  str : ByteArray
def At.agg (a : At) : Value := .agg #[.string a.name, .int .i64 a.kind, .int .i64 a.mn, .int .i64 a.mx]
def Vl.agg (v : Vl) : Value := .agg #[.int .i64 v.num, .string v.str]
def Pd.agg (p : Pd) : Value := .agg #[.string p.name, .int .i64 p.op, .int .i64 p.lo, .int .i64 p.hi, .string p.str]
def At.cells (a : At) : List Value := [.string a.name, .int .i64 a.kind, .int .i64 a.mn, .int .i64 a.mx]
def Vl.cells (v : Vl) : List Value := [.int .i64 v.num, .string v.str]
def Pd.cells (p : Pd) : List Value := [.string p.name, .int .i64 p.op, .int .i64 p.lo, .int .i64 p.hi, .string p.str]
theorem At.cells_len (a : At) : a.cells.length = 4 := rfl
theorem Vl.cells_len (a : Vl) : a.cells.length = 2 := rfl
theorem Pd.cells_len (a : Pd) : a.cells.length = 5 := rfl
def at0 : At := ⟨ByteArray.empty, 0, 0, 0⟩
def vl0 : Vl := ⟨0, ByteArray.empty⟩
def pd0 : Pd := ⟨ByteArray.empty, 0, 0, 0, ByteArray.empty⟩

def letterP (c : UInt8) : Prop := (97 : Int) ≤ (c.toNat : Int) ∧ (c.toNat : Int) ≤ 122
def digitP (c : UInt8) : Prop := (48 : Int) ≤ (c.toNat : Int) ∧ (c.toNat : Int) ≤ 57
instance (c : UInt8) : Decidable (letterP c) := by unfold letterP; infer_instance
instance (c : UInt8) : Decidable (digitP c) := by unfold digitP; infer_instance

structure NameOk (s : ByteArray) : Prop where
  lo : 1 ≤ s.size
  hi : s.size ≤ 12
  nin : s.toList ≠ [105, 110]
  nand : s.toList ≠ [97, 110, 100]
  ch : ∀ i (h : i < s.size), letterP s[i] ∨ (i ≠ 0 ∧ digitP s[i])
structure StrOk (s : ByteArray) : Prop where
  ch : ∀ i (h : i < s.size), (32 : Int) ≤ (s[i].toNat : Int) ∧ (s[i].toNat : Int) ≤ 126
  le : s.size ≤ 40

def AttrOk (a : At) : Prop := NameOk a.name ∧ ((a.kind = 1 ∧ -2147483648 ≤ a.mn ∧ a.mn ≤ a.mx ∧ a.mx ≤ 2147483648) ∨ (a.kind = 2 ∧ a.mn = 0 ∧ a.mx = 0))
def ValOk (a : At) (v : Vl) : Prop := (a.kind = 1 ∧ a.mn ≤ v.num ∧ v.num ≤ a.mx ∧ v.str = ByteArray.empty) ∨ (a.kind = 2 ∧ StrOk v.str ∧ v.num = 0)
def PredOk (a : At) (p : Pd) : Prop :=
  (p.op = 1 ∧ a.kind = 1 ∧ a.mn ≤ p.lo ∧ p.lo ≤ p.hi ∧ p.hi ≤ a.mx ∧ p.str = ByteArray.empty) ∨
  ((p.op = 2 ∨ (p.op = 3 ∧ p.str ≠ ByteArray.empty)) ∧ a.kind = 2 ∧ StrOk p.str ∧ p.lo = 0 ∧ p.hi = 0)
def Takes (p : Pd) (v : Vl) : Prop :=
  (p.op = 1 ∧ p.lo ≤ v.num ∧ v.num ≤ p.hi) ∨ (p.op = 2 ∧ v.str = p.str) ∨ (p.op ≠ 1 ∧ p.op ≠ 2 ∧ p.str.data.toList <+: v.str.data.toList)

/-- The place of the first attribute of a name. -/
def FindAt (az : List At) (n : ByteArray) (k : Nat) : Prop := k < az.length ∧ (az.getD k at0).name = n ∧ ∀ j, j < k → (az.getD j at0).name ≠ n
def FindNo (az : List At) (n : ByteArray) : Prop := ∀ j, j < az.length → (az.getD j at0).name ≠ n
def Found (az : List At) (n : ByteArray) (r : Int) : Prop := (∃ k : Nat, r = k ∧ FindAt az n k) ∨ (r = -1 ∧ FindNo az n)
theorem FindAt.uniq {az : List At} {n : ByteArray} {k l : Nat} (h : FindAt az n k) (g : FindAt az n l) : k = l := by
  rcases Nat.lt_trichotomy k l with h1 | h1 | h1
  · exact absurd h.2.1 (g.2.2 k h1)
  · exact h1
  · exact absurd g.2.1 (h.2.2 l h1)

def SchemaOk (az : List At) : Prop := 1 ≤ az.length ∧ az.length ≤ 4 ∧ ∀ i, i < az.length → AttrOk (az.getD i at0) ∧ ∀ j, j < i → (az.getD j at0).name ≠ (az.getD i at0).name
def EventOk (az : List At) (vs : List Vl) (pay : Nat) : Prop := vs.length = az.length ∧ pay ≤ 200 ∧ ∀ i, i < az.length → ValOk (az.getD i at0) (vs.getD i vl0)
def FilterOk (az : List At) (ps : List Pd) : Prop := 1 ≤ ps.length ∧ ps.length ≤ 4 ∧ ∀ i, i < ps.length → (∀ j, j < i → (ps.getD j pd0).name ≠ (ps.getD i pd0).name) ∧ ∃ k, FindAt az (ps.getD i pd0).name k ∧ PredOk (az.getD k at0) (ps.getD i pd0)
def MatchOk (az : List At) (ps : List Pd) (vs : List Vl) (pay : Nat) : Prop := FilterOk az ps ∧ EventOk az vs pay ∧ ∀ i, i < ps.length → ∃ k, FindAt az (ps.getD i pd0).name k ∧ Takes (ps.getD i pd0) (vs.getD k vl0)

/-- Attributes, values, predicates of a slice: they lie in block g from its beginning on (if there are any). -/
structure AtIn (w : World) (v : Value) (az : List At) : Prop where
  shape : ∃ a c, v = .slice a az.length c ∧ (0 < az.length → ∃ g, a = some ⟨g, 0, none⟩ ∧ g < w.heap.size ∧ az.length ≤ c ∧ (∀ j, j < az.length → w.cell? ⟨g, j * 4, none⟩ = some (.string (az.getD j at0).name) ∧ w.cell? ⟨g, j * 4 + 1, none⟩ = some (.int .i64 (az.getD j at0).kind) ∧ w.cell? ⟨g, j * 4 + 2, none⟩ = some (.int .i64 (az.getD j at0).mn) ∧ w.cell? ⟨g, j * 4 + 3, none⟩ = some (.int .i64 (az.getD j at0).mx)))
structure VlIn (w : World) (v : Value) (vs : List Vl) : Prop where
  shape : ∃ a c, v = .slice a vs.length c ∧ (0 < vs.length → ∃ g, a = some ⟨g, 0, none⟩ ∧ g < w.heap.size ∧ vs.length ≤ c ∧ (∀ j, j < vs.length → w.cell? ⟨g, j * 2, none⟩ = some (.int .i64 (vs.getD j vl0).num) ∧ w.cell? ⟨g, j * 2 + 1, none⟩ = some (.string (vs.getD j vl0).str)))
structure PdIn (w : World) (v : Value) (ps : List Pd) : Prop where
  shape : ∃ a c, v = .slice a ps.length c ∧ (0 < ps.length → ∃ g, a = some ⟨g, 0, none⟩ ∧ g < w.heap.size ∧ ps.length ≤ c ∧ (∀ j, j < ps.length → w.cell? ⟨g, j * 5, none⟩ = some (.string (ps.getD j pd0).name) ∧ w.cell? ⟨g, j * 5 + 1, none⟩ = some (.int .i64 (ps.getD j pd0).op) ∧ w.cell? ⟨g, j * 5 + 2, none⟩ = some (.int .i64 (ps.getD j pd0).lo) ∧ w.cell? ⟨g, j * 5 + 3, none⟩ = some (.int .i64 (ps.getD j pd0).hi) ∧ w.cell? ⟨g, j * 5 + 4, none⟩ = some (.string (ps.getD j pd0).str)))

theorem AtIn.below {w w' : World} {v : Value} {az : List At} (h : AtIn w v az) (hb : Below w.heap.size w w') : AtIn w' v az := by
  obtain ⟨a, c, hv, hh⟩ := h.shape
  refine ⟨a, c, hv, fun hp => ?_⟩
  obtain ⟨g, ha, hg, hc, hj⟩ := hh hp
  refine ⟨g, ha, Nat.lt_of_lt_of_le hg hb.size, hc, fun j hl => ?_⟩
  have e : ∀ o, w'.cell? ⟨g, o, none⟩ = w.cell? ⟨g, o, none⟩ := fun o => hb.cell (p := ⟨g, o, none⟩) hg
  simp only [e]; exact hj j hl
theorem VlIn.below {w w' : World} {v : Value} {az : List Vl} (h : VlIn w v az) (hb : Below w.heap.size w w') : VlIn w' v az := by
  obtain ⟨a, c, hv, hh⟩ := h.shape
  refine ⟨a, c, hv, fun hp => ?_⟩
  obtain ⟨g, ha, hg, hc, hj⟩ := hh hp
  refine ⟨g, ha, Nat.lt_of_lt_of_le hg hb.size, hc, fun j hl => ?_⟩
  have e : ∀ o, w'.cell? ⟨g, o, none⟩ = w.cell? ⟨g, o, none⟩ := fun o => hb.cell (p := ⟨g, o, none⟩) hg
  simp only [e]; exact hj j hl
theorem PdIn.below {w w' : World} {v : Value} {az : List Pd} (h : PdIn w v az) (hb : Below w.heap.size w w') : PdIn w' v az := by
  obtain ⟨a, c, hv, hh⟩ := h.shape
  refine ⟨a, c, hv, fun hp => ?_⟩
  obtain ⟨g, ha, hg, hc, hj⟩ := hh hp
  refine ⟨g, ha, Nat.lt_of_lt_of_le hg hb.size, hc, fun j hl => ?_⟩
  have e : ∀ o, w'.cell? ⟨g, o, none⟩ = w.cell? ⟨g, o, none⟩ := fun o => hb.cell (p := ⟨g, o, none⟩) hg
  simp only [e]; exact hj j hl

theorem getD_take {α : Type} (l : List α) (d : α) (i j : Nat) (h : j < i) : (l.take i).getD j d = l.getD j d := by
  simp [h]
end Go.Proofs.YtkncpojijfeahaaGreatDoor

/- A bulletin as plain lists: events, subscriptions, what was given. No program in sight. -/
namespace Go.Proofs.YtkncpojijfeahaaGreatDoor
open Go.RowKit
open Go.ChangeMaps (setBlock)
set_option linter.unusedVariables false

/-- Two lists go together, element by element. -/
def Rel2 {α β : Type} (R : α → β → Prop) : List α → List β → Prop
  | [], [] => True
  | a :: l, b :: m => R a b ∧ Rel2 R l m
  | _, _ => False
section
variable {α β : Type} {R S : α → β → Prop}
theorem rel2_mono (h : ∀ a b, R a b → S a b) : ∀ (l : List α) (m : List β), Rel2 R l m → Rel2 S l m
  | [], [], _ => trivial
  | a :: l, b :: m, q => ⟨h a b q.1, rel2_mono h l m q.2⟩
  | [], _ :: _, q => q.elim
  | _ :: _, [], q => q.elim
theorem rel2_snoc {a : α} {b : β} (hab : R a b) : ∀ (l : List α) (m : List β), Rel2 R l m → Rel2 R (l ++ [a]) (m ++ [b])
  | [], [], _ => ⟨hab, trivial⟩
  | c :: l, d :: m, q => ⟨q.1, rel2_snoc hab l m q.2⟩
  | [], _ :: _, q => q.elim
  | _ :: _, [], q => q.elim
theorem rel2_filter {p : α → Bool} {q : β → Bool} (h : ∀ a b, R a b → p a = q b) : ∀ (l : List α) (m : List β), Rel2 R l m → Rel2 R (l.filter p) (m.filter q)
  | [], [], _ => trivial
  | a :: l, b :: m, z => by
    have e := h a b z.1
    have ih := rel2_filter h l m z.2
    cases hq : q b
    · rw [hq] at e
      rw [List.filter_cons_of_neg (by simp [e]), List.filter_cons_of_neg (by simp [hq])]; exact ih
    · rw [hq] at e
      rw [List.filter_cons_of_pos e, List.filter_cons_of_pos hq]; exact ⟨z.1, ih⟩
  | [], _ :: _, z => z.elim
  | _ :: _, [], z => z.elim
theorem rel2_len : ∀ (l : List α) (m : List β), Rel2 R l m → l.length = m.length
  | [], [], _ => rfl
  | a :: l, b :: m, q => by simp [rel2_len l m q.2]
  | [], _ :: _, q => q.elim
  | _ :: _, [], q => q.elim
theorem rel2_left : ∀ (l : List α) (m : List β), Rel2 R l m → ∀ a ∈ l, ∃ b ∈ m, R a b
  | [], [], _, a, h => by cases h
  | c :: l, d :: m, q, a, h => by
    rcases List.mem_cons.1 h with rfl | h
    · exact ⟨d, by simp, q.1⟩
    · obtain ⟨b, hb, r⟩ := rel2_left l m q.2 a h
      exact ⟨b, List.mem_cons_of_mem _ hb, r⟩
  | [], _ :: _, q, _, _ => q.elim
  | _ :: _, [], q, _, _ => q.elim
theorem rel2_right : ∀ (l : List α) (m : List β), Rel2 R l m → ∀ b ∈ m, ∃ a ∈ l, R a b
  | [], [], _, a, h => by cases h
  | c :: l, d :: m, q, b, h => by
    rcases List.mem_cons.1 h with rfl | h
    · exact ⟨c, by simp, q.1⟩
    · obtain ⟨a, ha, r⟩ := rel2_right l m q.2 b h
      exact ⟨a, List.mem_cons_of_mem _ ha, r⟩
  | [], _ :: _, q, _, _ => q.elim
  | _ :: _, [], q, _, _ => q.elim
theorem rel2_map {γ : Type} {f : α → γ} {g : β → γ} (h : ∀ a b, R a b → f a = g b) : ∀ (l : List α) (m : List β), Rel2 R l m → l.map f = m.map g
  | [], [], _ => rfl
  | a :: l, b :: m, q => by simp [h a b q.1, rel2_map h l m q.2]
  | [], _ :: _, q => q.elim
  | _ :: _, [], q => q.elim
end
/-- An event on the board; a subscription; what was given. -/
structure Bev where
  key : Int × Int
  vs : List Vl
  pay : ByteArray
structure Bsb where
  key : Int × Int
  ps : List Pd
abbrev Bgf := (Int × Int) × (Int × Int)
/-- Pairs rise. -/
def ltP (a b : Int × Int) : Prop := a.1 < b.1 ∨ (a.1 = b.1 ∧ a.2 < b.2)
instance (a b : Int × Int) : Decidable (ltP a b) := by unfold ltP; infer_instance
theorem ltP_irrefl (a : Int × Int) : ¬ ltP a a := by unfold ltP; omega
theorem ltP_trans {a b c : Int × Int} (h : ltP a b) (h' : ltP b c) : ltP a c := by unfold ltP at *; omega
theorem ltP_total {a b : Int × Int} (h : a ≠ b) : ltP a b ∨ ltP b a := by
  obtain ⟨x, y⟩ := a
  obtain ⟨z, u⟩ := b
  simp only [ltP]
  by_cases h1 : x = z
  · subst h1
    have : y ≠ u := fun e => h (by rw [e])
    omega
  · omega
/-- Two rising lists with the same members are one. -/
theorem riseP_same : ∀ (l m : List (Int × Int)), l.Pairwise ltP → m.Pairwise ltP → (∀ x, x ∈ l ↔ x ∈ m) → l = m
  | [], [], _, _, _ => rfl
  | [], b :: m, _, _, h => by have := (h b).2 (by simp); cases this
  | a :: l, [], _, _, h => by have := (h a).1 (by simp); cases this
  | a :: l, b :: m, hl, hm, h => by
    obtain ⟨l1, l2⟩ := List.pairwise_cons.1 hl
    obtain ⟨m1, m2⟩ := List.pairwise_cons.1 hm
    have e : a = b := by
      rcases List.mem_cons.1 ((h a).1 (by simp)) with e | e
      · exact e
      · rcases List.mem_cons.1 ((h b).2 (by simp)) with e' | e'
        · exact e'.symm
        · exact absurd (ltP_trans (m1 a e) (l1 b e')) (ltP_irrefl b)
    subst e
    rw [riseP_same l m l2 m2 (fun x => ?_)]
    constructor
    · intro hx
      rcases List.mem_cons.1 ((h x).1 (List.mem_cons_of_mem _ hx)) with e | e
      · subst e; exact absurd (l1 x hx) (ltP_irrefl x)
      · exact e
    · intro hx
      rcases List.mem_cons.1 ((h x).2 (List.mem_cons_of_mem _ hx)) with e | e
      · subst e; exact absurd (m1 x hx) (ltP_irrefl x)
      · exact e
theorem riseP_nodup {l : List (Int × Int)} (h : l.Pairwise ltP) : l.Nodup := h.imp (fun q e => by subst e; exact ltP_irrefl _ q)
/-- Who is due: the list of those that take it and didn't get it, by rising pairs. -/
def DueL (U : List Bsb) (tk : Bsb → Prop) (L : List (Int × Int)) : Prop := L.Pairwise ltP ∧ ∀ k, k ∈ L ↔ ∃ u ∈ U, u.key = k ∧ tk u
theorem DueL.uniq {U : List Bsb} {tk : Bsb → Prop} {L M : List (Int × Int)} (h : DueL U tk L) (h' : DueL U tk M) : L = M :=
  riseP_same L M h.1 h'.1 (fun x => by rw [h.2, h'.2])
/-- What a key says. -/
theorem look_rel {β : Type} {R : (Int × Int) × Value → β → Prop} {key : β → Int × Int} (hk : ∀ p b, R p b → p.1 = key b) {m : List ((Int × Int) × Value)} {L : List β} (hr : Rel2 R m L) (k : Int × Int) :
    (lookK m k = none ∧ ∀ b ∈ L, key b ≠ k) ∨ ∃ b v, b ∈ L ∧ key b = k ∧ lookK m k = some v ∧ R (k, v) b := by
  cases h : lookK m k with
  | none =>
    refine .inl ⟨rfl, fun b hb e => ?_⟩
    obtain ⟨p, hp, r⟩ := rel2_right m L hr b hb
    exact lookK_none.1 h (List.mem_map.2 ⟨p, hp, by rw [hk p b r]; exact e⟩)
  | some v =>
    have hm := lookK_some h
    obtain ⟨b, hb, r⟩ := rel2_left m L hr _ hm
    exact .inr ⟨b, v, hb, (hk _ _ r).symm, rfl, r⟩
theorem keys_rel {β : Type} {R : (Int × Int) × Value → β → Prop} {key : β → Int × Int} (hk : ∀ p b, R p b → p.1 = key b) {m : List ((Int × Int) × Value)} {L : List β} (hr : Rel2 R m L) : m.map (·.1) = L.map key :=
  rel2_map hk m L hr
end Go.Proofs.YtkncpojijfeahaaGreatDoor

/- The board in memory: its box and its three maps. -/
namespace Go.Proofs.YtkncpojijfeahaaGreatDoor
open Go.ChangeShapes Go.WideShapes Go.ChangeAt Go.RowKit
open Go.ChangeMaps (setBlock)
set_option linter.unusedVariables false

def kv2 (k : Int × Int) : Value := .agg #[.int .i64 k.1, .int .i64 k.2]
def kv4 (k : Bgf) : Value := .agg #[.int .i64 k.1.1, .int .i64 k.1.2, .int .i64 k.2.1, .int .i64 k.2.2]
theorem kv2_inj (a b : Int × Int) (h : kv2 a = kv2 b) : a = b := by
  obtain ⟨x, y⟩ := a
  obtain ⟨z, u⟩ := b
  simp [kv2] at h
  simp [h]
theorem kv4_inj (a b : Bgf) (h : kv4 a = kv4 b) : a = b := by
  obtain ⟨⟨x, y⟩, ⟨z, u⟩⟩ := a
  obtain ⟨⟨x', y'⟩, ⟨z', u'⟩⟩ := b
  simp [kv4] at h
  simp [h]
theorem two_fields {l : List Field} {a b : String} {t u : TypeId} {o p : Nat} (h : l.map (fun f => (f.name, f.type, f.offset)) = [(a, t, o), (b, u, p)]) :
    ∃ f0 f1 : Field, l = [f0, f1] ∧ f0.name = a ∧ f0.type = t ∧ f0.offset = o ∧ f1.name = b ∧ f1.type = u ∧ f1.offset = p := by
  cases l with
  | nil => cases h
  | cons f0 l =>
    cases l with
    | nil => simp at h
    | cons f1 l =>
      cases l with
      | nil =>
        simp at h
        exact ⟨f0, f1, rfl, h.1.1, h.1.2.1, h.1.2.2, h.2.1, h.2.2.1, h.2.2.2⟩
      | cons f2 l => simp at h
theorem kp0 (x y : Int) (w : World) : (part 3 #[.int .i64 x, .int .i64 y] 0).run Tryz.prog w = .ok (.int .i64 x) w := by kernel_rfl
theorem kp1 (x y : Int) (w : World) : (part 3 #[.int .i64 x, .int .i64 y] 1).run Tryz.prog w = .ok (.int .i64 y) w := by kernel_rfl
theorem eq_two (d : Nat) (T : TypeId) (a b : String) (ht : Tryz.prog.underlying T = some (.struct (Tryz.prog.fieldsOf T))) (hp : Tryz.prog.stoodInHeld T = false) (hf : (Tryz.prog.fieldsOf T).toList.map (fun f => (f.name, f.type, f.offset)) = [(a, 3, 0), (b, 3, 1)]) (ha : a ≠ "_") (hb : b ≠ "_")
    (x y z u : Int) (w : World) : (Op.equalIn (d + 2) T (.agg #[.int .i64 x, .int .i64 y]) (.agg #[.int .i64 z, .int .i64 u])).run Tryz.prog w = .ok (x == z && y == u) w := by
  rw [run_equalIn_agg w (d + 1) _ _ _ ht hp]
  obtain ⟨f0, f1, hl, n0, t0, o0, n1, t1, o1⟩ := two_fields hf
  rw [hl]
  simp only [Op.eqFields, n0, n1, t0, t1, o0, o1, ne_eq, ha, hb, not_false_eq_true, if_true, Sem.run_bind, kp0, Result.andThen_ok]
  rw [run_equalIn_int w d _ _ _ _ _ Tryz.underlying3]
  by_cases e0 : x = z
  · have e0' : (x == z) = true := by simpa using e0
    simp only [e0', Result.andThen_ok, Bool.not_true, Bool.false_eq_true, if_false, Sem.run_bind, kp1]
    rw [run_equalIn_int w d _ _ _ _ _ Tryz.underlying3]
    cases e1 : (y == u) <;> simp
  · have e0' : (x == z) = false := by simpa using e0
    simp [e0']
theorem dec_two (x y z u : Int) : (x == z && y == u) = decide ((x, y) = (z, u)) := by
  by_cases e0 : x = z <;> by_cases e1 : y = u <;> simp [e0, e1]
theorem eq_stamp (a b : Int × Int) (w : World) : (Op.equal 94 (kv2 a) (kv2 b)).run Tryz.prog w = .ok (decide (a = b)) w := by
  obtain ⟨x, y⟩ := a
  obtain ⟨z, u⟩ := b
  rw [← dec_two]
  exact eq_two 9998 _ "pub" "seq" (by kernel_rfl) (by kernel_rfl) (by kernel_rfl) (by decide) (by decide) x y z u w
theorem eq_who (a b : Int × Int) (w : World) : (Op.equal 44 (kv2 a) (kv2 b)).run Tryz.prog w = .ok (decide (a = b)) w := by
  obtain ⟨x, y⟩ := a
  obtain ⟨z, u⟩ := b
  rw [← dec_two]
  exact eq_two 9998 _ "Node" "Sub" (by kernel_rfl) (by kernel_rfl) (by kernel_rfl) (by decide) (by decide) x y z u w
theorem gp0 (x y z u : Int) (w : World) : (part 44 #[.int .i64 x, .int .i64 y, .int .i64 z, .int .i64 u] 0).run Tryz.prog w = .ok (.agg #[.int .i64 x, .int .i64 y]) w := by kernel_rfl
theorem gp1 (x y z u : Int) (w : World) : (part 94 #[.int .i64 x, .int .i64 y, .int .i64 z, .int .i64 u] 2).run Tryz.prog w = .ok (.agg #[.int .i64 z, .int .i64 u]) w := by kernel_rfl
theorem eq_gift (a b : Bgf) (w : World) : (Op.equal 107 (kv4 a) (kv4 b)).run Tryz.prog w = .ok (decide (a = b)) w := by
  obtain ⟨⟨x, y⟩, ⟨z, u⟩⟩ := a
  obtain ⟨⟨x', y'⟩, ⟨z', u'⟩⟩ := b
  have hf : (Tryz.prog.fieldsOf 107).toList.map (fun f => (f.name, f.type, f.offset)) = [("to", 44, 0), ("what", 94, 2)] := by kernel_rfl
  obtain ⟨f0, f1, hl, n0, t0, o0, n1, t1, o1⟩ := two_fields hf
  have h : (Op.equalIn (9999 + 1) 107 (kv4 ((x, y), (z, u))) (kv4 ((x', y'), (z', u')))).run Tryz.prog w = .ok ((x == x' && y == y') && (z == z' && u == u')) w := by
    show (Op.equalIn (9999 + 1) _ (.agg _) (.agg _)).run _ _ = _
    rw [run_equalIn_agg w 9999 _ _ _ (by kernel_rfl) (by kernel_rfl), hl]
    have e1 := eq_two 9997 44 "Node" "Sub" (by kernel_rfl) (by kernel_rfl) (by kernel_rfl) (by decide) (by decide) x y x' y' w
    have e2 := eq_two 9997 94 "pub" "seq" (by kernel_rfl) (by kernel_rfl) (by kernel_rfl) (by decide) (by decide) z u z' u' w
    have d0 : ¬ ("to" = "_") := by decide
    have d1 : ¬ ("what" = "_") := by decide
    simp only [Op.eqFields, n0, n1, t0, t1, o0, o1, ne_eq, d0, d1, not_false_eq_true, if_true, Sem.run_bind, gp0, Result.andThen_ok]
    rw [e1]
    cases q : (x == x' && y == y')
    · simp
    · simp only [Result.andThen_ok, Bool.not_true, Bool.false_eq_true, if_false, Sem.run_bind, gp1]
      rw [e2]
      cases q2 : (z == z' && u == u') <;> simp
  have e : ((x == x' && y == y') && (z == z' && u == u')) = decide (((x, y), (z, u)) = ((x', y'), (z', u'))) := by
    rw [dec_two, dec_two]
    by_cases q : (x, y) = (x', y') <;> by_cases q2 : (z, u) = (z', u') <;> simp [q, q2]
  rw [← e]
  exact h
theorem ck_stamp (w : World) (b : Bool) (k : Int × Int) : (Instr.checkKey b 10000 94 (kv2 k)).run Tryz.prog w = .ok () w := by kernel_rfl
theorem ck_who (w : World) (b : Bool) (k : Int × Int) : (Instr.checkKey b 10000 44 (kv2 k)).run Tryz.prog w = .ok () w := by kernel_rfl
theorem ck_gift (w : World) (b : Bool) (k : Bgf) : (Instr.checkKey b 10000 107 (kv4 k)).run Tryz.prog w = .ok () w := by kernel_rfl
theorem key_stamp : KeyT Tryz.prog 94 kv2 := ⟨fun w k es m h => find_struct (fs := Tryz.prog.fieldsOf 94) (by kernel_rfl) (fun a => ⟨_, rfl⟩) eq_stamp w k es m h, ck_stamp, kv2_inj⟩
theorem key_who : KeyT Tryz.prog 44 kv2 := ⟨fun w k es m h => find_struct (fs := Tryz.prog.fieldsOf 44) (by kernel_rfl) (fun a => ⟨_, rfl⟩) eq_who w k es m h, ck_who, kv2_inj⟩
theorem key_gift : KeyT Tryz.prog 107 kv4 := ⟨fun w k es m h => find_struct (fs := Tryz.prog.fieldsOf 107) (by kernel_rfl) (fun a => ⟨_, rfl⟩) eq_gift w k es m h, ck_gift, kv4_inj⟩
end Go.Proofs.YtkncpojijfeahaaGreatDoor
