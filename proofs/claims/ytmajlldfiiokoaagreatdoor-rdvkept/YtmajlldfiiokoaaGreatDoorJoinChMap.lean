/- Maps keyed by ints, as lists of pairs; what a look-up, a store and a delete do. No program in sight. -/
import Derived.WalkKit
import Derived.MapKept
import Derived.Below
import Derived.Test.YtmajlldfiiokoaaGreatDoorPrList
import Derived.Test.YtmajlldfiiokoaaGreatDoorRing
import Derived.Deep.LoopGhost
import Derived.BigRegion
import Derived.Deep.AppendLies
import Derived.Deep.CutBlock
import Derived.Deep.DeepCutAuto
import Derived.Deep.RegionWith
import Derived.Lib.SliceRun
import Derived.LoopN
set_option linter.unnecessarySimpa false
namespace Go.Proofs.YtmajlldfiiokoaaGreatDoor
open Go.RowKit
set_option linter.unusedVariables false

/-- What a map says of a key. -/
def look (m : List (Int × Value)) (k : Int) : Option Value :=
  match m with
  | [] => none
  | p :: m => if p.1 == k then some p.2 else look m k
/-- A store. -/
def put (m : List (Int × Value)) (k : Int) (v : Value) : List (Int × Value) :=
  match m with
  | [] => [(k, v)]
  | p :: m => if p.1 == k then (k, v) :: m else p :: put m k v
/-- A delete. -/
def del (m : List (Int × Value)) (k : Int) : List (Int × Value) :=
  match m with
  | [] => []
  | p :: m => if p.1 == k then m else p :: del m k
/-- Where a key stands, and what is there. -/
def fnd (m : List (Int × Value)) (k : Int) (i : Nat) : Option (Nat × Value) :=
  match m with
  | [] => none
  | p :: m => if p.1 == k then some (i, p.2) else fnd m k (i + 1)

theorem look_put (m : List (Int × Value)) (k k' : Int) (v : Value) : look (put m k v) k' = if k' = k then some v else look m k' := by
  induction m with
  | nil =>
    by_cases h : k' = k
    · subst h; simp [put, look]
    · have : ¬ k = k' := fun e => h e.symm
      simp [put, look, h, this]
  | cons p m ih =>
    by_cases h1 : p.1 = k
    · by_cases h : k' = k
      · subst h; simp [put, look, h1]
      · have : ¬ k = k' := fun e => h e.symm
        simp [put, look, h1, h, this]
    · by_cases h : k' = k
      · subst h; simp [put, look, h1, ih]
      · simp only [put, look, beq_iff_eq, h1, if_false, ih, h]
theorem keys_put (m : List (Int × Value)) (k : Int) (v : Value) (x : Int) : x ∈ (put m k v).map (·.1) ↔ x = k ∨ x ∈ m.map (·.1) := by
  induction m with
  | nil => simp [put]
  | cons p m ih =>
    by_cases h1 : p.1 = k
    · simp [put, h1]
    · simp only [put, beq_iff_eq, h1, if_false, List.map_cons, List.mem_cons, ih]
      constructor
      · rintro (h | h | h) <;> simp [h]
      · rintro (h | h | h) <;> simp [h]
theorem nodup_put {m : List (Int × Value)} (h : (m.map (·.1)).Nodup) (k : Int) (v : Value) : ((put m k v).map (·.1)).Nodup := by
  induction m with
  | nil => simp [put]
  | cons p m ih =>
    obtain ⟨h1, h2⟩ := List.nodup_cons.1 h
    by_cases hp : p.1 = k
    · simp only [put, beq_iff_eq, hp, if_true, List.map_cons]
      exact List.nodup_cons.2 ⟨by rw [← hp]; exact h1, h2⟩
    · simp only [put, beq_iff_eq, hp, if_false, List.map_cons]
      refine List.nodup_cons.2 ⟨fun e => ?_, ih h2⟩
      rcases (keys_put m k v p.1).1 e with e | e
      · exact hp e
      · exact h1 e
theorem look_none {m : List (Int × Value)} {k : Int} (h : k ∉ m.map (·.1)) : look m k = none := by
  induction m with
  | nil => rfl
  | cons p m ih =>
    simp only [List.map_cons, List.mem_cons, not_or] at h
    have : ¬ p.1 = k := fun e => h.1 e.symm
    simp only [look, beq_iff_eq, this, if_false]
    exact ih h.2
theorem look_del {m : List (Int × Value)} (hn : (m.map (·.1)).Nodup) (k k' : Int) : look (del m k) k' = if k' = k then none else look m k' := by
  induction m with
  | nil => simp [del, look]
  | cons p m ih =>
    obtain ⟨h1, h2⟩ := List.nodup_cons.1 hn
    by_cases hp : p.1 = k
    · by_cases h : k' = k
      · subst h; simp only [del, beq_iff_eq, hp, if_true]; exact look_none (by rw [← hp]; exact h1)
      · have : ¬ k = k' := fun e => h e.symm
        simp [del, look, hp, h, this]
    · by_cases h : k' = k
      · subst h; simp only [del, look, beq_iff_eq, hp, if_false, ih h2, if_true]
      · simp only [del, look, beq_iff_eq, hp, if_false, ih h2, h]
theorem keys_del (m : List (Int × Value)) (k : Int) (x : Int) (h : x ∈ (del m k).map (·.1)) : x ∈ m.map (·.1) := by
  induction m with
  | nil => simp [del] at h
  | cons p m ih =>
    by_cases hp : p.1 = k
    · simp only [del, beq_iff_eq, hp, if_true] at h
      exact List.mem_cons_of_mem _ h
    · simp only [del, beq_iff_eq, hp, if_false, List.map_cons, List.mem_cons] at h
      rcases h with h | h
      · simp [h]
      · exact List.mem_cons_of_mem _ (ih h)
theorem nodup_del {m : List (Int × Value)} (h : (m.map (·.1)).Nodup) (k : Int) : ((del m k).map (·.1)).Nodup := by
  induction m with
  | nil => simp [del]
  | cons p m ih =>
    obtain ⟨h1, h2⟩ := List.nodup_cons.1 h
    by_cases hp : p.1 = k
    · simp only [del, beq_iff_eq, hp, if_true]; exact h2
    · simp only [del, beq_iff_eq, hp, if_false, List.map_cons]
      exact List.nodup_cons.2 ⟨fun e => h1 (keys_del m k p.1 e), ih h2⟩
theorem fnd_look (m : List (Int × Value)) (k : Int) (i : Nat) : (fnd m k i).map (·.2) = look m k := by
  induction m generalizing i with
  | nil => rfl
  | cons p m ih =>
    by_cases h : p.1 = k
    · simp [fnd, look, h]
    · simp only [fnd, look, beq_iff_eq, h, if_false]; exact ih _

/-- An entry as a pair. -/
def pairOf (e : MapEntry) : Value × Value := (e.key, e.val)
def pairIn (p : Int × Value) : Value × Value := (.int .i64 p.1, p.2)

theorem findNow_int (q : IntKind) (k : Int) : ∀ (es : List MapEntry) (m : List (Int × Value)) (i : Nat), es.map pairOf = m.map pairIn → Instr.findNow (.int q) (.int .i64 k) es i = some (fnd m k i)
  | [], [], _, _ => rfl
  | [], _ :: _, _, h => by simp at h
  | _ :: _, [], _, h => by simp at h
  | e :: es, p :: m, i, h => by
    simp only [List.map_cons, List.cons.injEq] at h
    obtain ⟨h1, h2⟩ := h
    have hk : e.key = .int .i64 p.1 := congrArg Prod.fst h1
    have hv : e.val = p.2 := congrArg Prod.snd h1
    have ih := findNow_int q k es m (i + 1) h2
    by_cases hp : p.1 = k
    · simp [Instr.findNow, Instr.sameNow, hk, fnd, hp, hv]
    · have hp' : ¬ k = p.1 := fun e => hp e.symm
      have e1 : (k == p.1) = false := by simpa using hp'
      have e2 : (p.1 == k) = false := by simpa using hp
      simp only [Instr.findNow, Instr.sameNow, hk, fnd, e1, e2, if_true]
      simpa using ih

theorem fnd_spec {m : List (Int × Value)} {k : Int} {i j : Nat} {v : Value} (h : fnd m k i = some (j, v)) : i ≤ j ∧ ∃ hj : j - i < m.length, m[j - i].1 = k ∧ m[j - i].2 = v := by
  induction m generalizing i with
  | nil => cases h
  | cons p m ih =>
    by_cases hp : p.1 = k
    · simp only [fnd, beq_iff_eq, hp, if_true, Option.some.injEq, Prod.mk.injEq] at h
      obtain ⟨rfl, rfl⟩ := h
      exact ⟨Nat.le_refl _, by simp, by simp [hp]⟩
    · simp only [fnd, beq_iff_eq, hp, if_false] at h
      obtain ⟨h1, hj, h2, h3⟩ := ih h
      refine ⟨by omega, by simp; omega, ?_⟩
      have e : j - i = (j - (i + 1)) + 1 := by omega
      simp only [e, List.getElem_cons_succ]
      exact ⟨h2, h3⟩
theorem put_hit {m : List (Int × Value)} {k : Int} {i j : Nat} {u v : Value} (h : fnd m k i = some (j, u)) : put m k v = m.set (j - i) (k, v) := by
  induction m generalizing i with
  | nil => cases h
  | cons p m ih =>
    by_cases hp : p.1 = k
    · simp only [fnd, beq_iff_eq, hp, if_true, Option.some.injEq, Prod.mk.injEq] at h
      obtain ⟨rfl, rfl⟩ := h
      simp [put, hp]
    · simp only [fnd, beq_iff_eq, hp, if_false] at h
      have h1 := (fnd_spec h).1
      have e : j - i = (j - (i + 1)) + 1 := by omega
      simp only [put, beq_iff_eq, hp, if_false, e, List.set_cons_succ, ih h]
theorem put_miss {m : List (Int × Value)} {k : Int} {i : Nat} {v : Value} (h : fnd m k i = none) : put m k v = m ++ [(k, v)] := by
  induction m generalizing i with
  | nil => rfl
  | cons p m ih =>
    by_cases hp : p.1 = k
    · simp [fnd, hp] at h
    · simp only [fnd, beq_iff_eq, hp, if_false] at h
      simp only [put, beq_iff_eq, hp, if_false, ih h, List.cons_append]
theorem del_hit {m : List (Int × Value)} {k : Int} {i j : Nat} {u : Value} (h : fnd m k i = some (j, u)) : del m k = m.eraseIdx (j - i) := by
  induction m generalizing i with
  | nil => cases h
  | cons p m ih =>
    by_cases hp : p.1 = k
    · simp only [fnd, beq_iff_eq, hp, if_true, Option.some.injEq, Prod.mk.injEq] at h
      obtain ⟨rfl, rfl⟩ := h
      simp [del, hp]
    · simp only [fnd, beq_iff_eq, hp, if_false] at h
      have h1 := (fnd_spec h).1
      have e : j - i = (j - (i + 1)) + 1 := by omega
      simp only [del, beq_iff_eq, hp, if_false, e, List.eraseIdx_cons_succ, ih h]
theorem del_miss {m : List (Int × Value)} {k : Int} {i : Nat} (h : fnd m k i = none) : del m k = m := by
  induction m generalizing i with
  | nil => rfl
  | cons p m ih =>
    by_cases hp : p.1 = k
    · simp [fnd, hp] at h
    · simp only [fnd, beq_iff_eq, hp, if_false] at h
      simp only [del, beq_iff_eq, hp, if_false, ih h]

theorem map_erase {α β : Type} (f : α → β) (l : List α) (i : Nat) : (l.eraseIdx i).map f = (l.map f).eraseIdx i := by
  induction l generalizing i with
  | nil => simp
  | cons a l ih => cases i with
    | zero => rfl
    | succ i => simp [ih]

/-- A map lies in a block. -/
def MpAt (w : World) (g : Nat) (m : List (Int × Value)) : Prop := (m.map (·.1)).Nodup ∧ ∃ es clock, w.heap[g]? = some (.map es clock) ∧ es.toList.map pairOf = m.map pairIn

theorem MpAt.of_block {w w' : World} {g : Nat} {m : List (Int × Value)} (h : MpAt w g m) (hb : w'.heap[g]? = w.heap[g]?) : MpAt w' g m := by
  obtain ⟨h1, es, c, h2, h3⟩ := h
  exact ⟨h1, es, c, hb.trans h2, h3⟩
theorem MpAt.lt {w : World} {g : Nat} {m : List (Int × Value)} (h : MpAt w g m) : g < w.heap.size := by
  obtain ⟨h1, es, c, h2, h3⟩ := h
  rcases Nat.lt_or_ge g w.heap.size with q | q
  · exact q
  · rw [Array.getElem?_eq_none q] at h2; cases h2
theorem MpAt.made (w : World) : MpAt (w.alloc (.map #[] 0)) w.heap.size [] := ⟨by simp, #[], 0, heap_alloc_new w _, rfl⟩
theorem MpAt.no_cell {w : World} {g : Nat} {m : List (Int × Value)} (h : MpAt w g m) (o : Nat) : w.cell? ⟨g, o, none⟩ = none := by
  obtain ⟨h1, es, c, h2, h3⟩ := h
  simp [World.cell?, h2]

section
variable {P : Program} {w : World} {g : Nat} {m : List (Int × Value)} {T K E : TypeId}

theorem checkKey_int (b : Bool) (hk : P.underlying K = some (.int .i64)) (k : Int) : (Instr.checkKey b 10000 K (.int .i64 k)).run P w = .ok () w := by
  exact MapKept.run_checkKey (d := .int .i64) (k := .int .i64 k) hk (show IntKind.i64 = IntKind.i64 from rfl) b 9999
theorem findKey_int (hk : P.underlying K = some (.int .i64)) (k : Int) {es : List MapEntry} (he : es.map pairOf = m.map pairIn) : (Instr.findKey K (.int .i64 k) es).run P w = .ok (fnd m k 0) w := by
  simp [Instr.findKey, run_underlying hk, findNow_int .i64 k es m 0 he]

theorem run_look_some (h : MpAt w g m) (ht : P.underlying T = some (.map K E)) (hk : P.underlying K = some (.int .i64)) {k : Int} {v : Value} (hv : look m k = some v) :
    (Instr.lookup T (.map (some g)) (.int .i64 k) true).run P w = .ok (.tuple #[v, .bool true]) w ∧ (Instr.lookup T (.map (some g)) (.int .i64 k) false).run P w = .ok v w := by
  obtain ⟨_, es, c, hb, he⟩ := h
  have hf := fnd_look m k 0
  rw [hv] at hf
  cases hq : fnd m k 0 with
  | none => rw [hq] at hf; cases hf
  | some x =>
    obtain ⟨j, u⟩ := x
    rw [hq] at hf
    simp at hf
    subst hf
    constructor <;> simp [Instr.lookup, run_underlying ht, MapKept.run_getObj_map hb, checkKey_int _ hk, findKey_int hk k he, hq, Result.andThen]
theorem run_look_none (h : MpAt w g m) (ht : P.underlying T = some (.map K E)) (hk : P.underlying K = some (.int .i64)) {z : Value} (hz : (zeroValue E).run P w = .ok z w) {k : Int} (hv : look m k = none) :
    (Instr.lookup T (.map (some g)) (.int .i64 k) true).run P w = .ok (.tuple #[z, .bool false]) w ∧ (Instr.lookup T (.map (some g)) (.int .i64 k) false).run P w = .ok z w := by
  obtain ⟨_, es, c, hb, he⟩ := h
  have hf := fnd_look m k 0
  rw [hv] at hf
  cases hq : fnd m k 0 with
  | some x => rw [hq] at hf; cases hf
  | none => constructor <;> simp [Instr.lookup, run_underlying ht, MapKept.run_getObj_map hb, checkKey_int _ hk, findKey_int hk k he, hq, Result.andThen, hz]

/-- A world with another map in a block. -/
def setMap (w : World) (g : Nat) (o : Obj) : World := { w with heap := w.heap.setIfInBounds g o }

theorem setMap_get {w : World} {g : Nat} (h : g < w.heap.size) (o : Obj) : (setMap w g o).heap[g]? = some o := by simp [setMap, h]

theorem sameBits_int (n : Nat) (k : Int) : Instr.sameBits n (.int .i64 k) (.int .i64 k) = true := by
  cases n <;> simp [Instr.sameBits]

theorem run_put (h : MpAt w g m) (ht : P.underlying T = some (.map K E)) (hk : P.underlying K = some (.int .i64)) (k : Int) (v : Value) :
    ∃ o, (Instr.mapUpdate T (.map (some g)) (.int .i64 k) v).run P w = .ok () (setMap w g o) ∧ MpAt (setMap w g o) g (put m k v) := by
  have hlt := h.lt
  obtain ⟨hn, es, c, hb, he⟩ := h
  cases hq : fnd m k 0 with
  | none =>
    refine ⟨.map (es.push { key := .int .i64 k, val := v, born := c }) (c + 1), ?_, nodup_put hn k v, es.push { key := .int .i64 k, val := v, born := c }, c + 1, setMap_get hlt _, ?_⟩
    · simp [Instr.mapUpdate, run_underlying ht, MapKept.run_getObj_map hb, checkKey_int _ hk, findKey_int hk k he, hq, Result.andThen, MapKept.run_setObj_map _ hb, setMap]
    · rw [put_miss hq]; simp [he, pairOf, pairIn]
  | some x =>
    obtain ⟨j, u⟩ := x
    obtain ⟨_, hj, h1, h2⟩ := fnd_spec hq
    simp only [Nat.sub_zero] at hj h1 h2
    have hle : es.size = m.length := by have := congrArg List.length he; simpa using this
    have hjs : j < es.size := by omega
    have hkey : es[j].key = .int .i64 k := by
      have := congrArg (fun l : List (Value × Value) => l[j]?) he
      simp [hjs, hj, pairOf, pairIn] at this
      rw [this.1, h1]
    refine ⟨.map (es.modify j fun e => { e with key := .int .i64 k, val := v }) c, ?_, nodup_put hn k v, es.modify j (fun e => { e with key := .int .i64 k, val := v }), c, setMap_get hlt _, ?_⟩
    · have hget : es[j]? = some es[j] := by simp [hjs]
      simp [Instr.mapUpdate, run_underlying ht, MapKept.run_getObj_map hb, checkKey_int _ hk, findKey_int hk k he, hq, Result.andThen, MapKept.run_setObj_map _ hb, setMap, hjs, hkey, Instr.keyThatStays, sameBits_int]
    · rw [put_hit hq]
      apply List.ext_getElem
      · simp [hle]
      · intro i hi1 hi2
        have hi : i < es.size := by simpa using hi1
        have hold := congrArg (fun l : List (Value × Value) => l[i]?) he
        have him : i < m.length := by omega
        simp [hi, him] at hold
        by_cases e : j = i
        · subst e; simp [pairOf, pairIn]
        · simp [pairIn, e, hold]
theorem run_del (h : MpAt w g m) (ht : P.underlying T = some (.map K E)) (hk : P.underlying K = some (.int .i64)) (k : Int) (ty ty2 : TypeId) :
    ∃ o, (Builtin.delete_ #[T, ty2] ty #[.map (some g), .int .i64 k]).run P w = .ok (.tuple #[]) (setMap w g o) ∧ MpAt (setMap w g o) g (del m k) := by
  have hlt := h.lt
  obtain ⟨hn, es, c, hb, he⟩ := h
  have hle : es.size = m.length := by have := congrArg List.length he; simpa using this
  cases hq : fnd m k 0 with
  | none =>
    refine ⟨.map es c, ?_, nodup_del hn k, es, c, setMap_get hlt _, ?_⟩
    · simp [Builtin.delete_, run_underlying ht, MapKept.run_getObj_map hb, checkKey_int _ hk, findKey_int hk k he, hq, Result.andThen, MapKept.run_setObj_map _ hb, setMap]
    · rw [del_miss hq]; exact he
  | some x =>
    obtain ⟨j, u⟩ := x
    obtain ⟨_, hj, h1, h2⟩ := fnd_spec hq
    simp only [Nat.sub_zero] at hj
    have hjs : j < es.size := by omega
    refine ⟨.map (es.eraseIdxIfInBounds j) c, ?_, nodup_del hn k, es.eraseIdxIfInBounds j, c, setMap_get hlt _, ?_⟩
    · simp [Builtin.delete_, run_underlying ht, MapKept.run_getObj_map hb, checkKey_int _ hk, findKey_int hk k he, hq, Result.andThen, MapKept.run_setObj_map _ hb, setMap]
    · rw [del_hit hq]
      have : (es.eraseIdxIfInBounds j).toList = es.toList.eraseIdx j := by simp [Array.eraseIdxIfInBounds, hjs]
      rw [this]
      simp only [Nat.sub_zero]
      rw [map_erase, map_erase, he]
end
end Go.Proofs.YtmajlldfiiokoaaGreatDoor

/- A chord ring in memory: two maps behind a pointer; Lives, Id. -/
namespace Go.Proofs.YtmajlldfiiokoaaGreatDoor
open Go.ChangeShapes Go.WideShapes Go.ChangeAt Go.RowKit Go.Deep
set_option linter.unusedVariables false

/-- What a member knows. -/
structure Pe where
  id : Int
  pred : Int
  succ : List Int
/-- A ring: the places of all that are members or were, what each one that lives knows; and, beside it, blocks that its lists keep clear of. -/
structure Rg where
  pl : Int → Option Int
  kn : Int → Option Pe
  cl : Nat → Prop := fun _ => False
def Rg.lives (R : Rg) (n : Int) : Bool := (R.kn n).isSome
def Rg.idOf (R : Rg) (n : Int) : Int := (R.pl n).getD 0
def pe0 : Pe := ⟨0, 0, []⟩
def Rg.know (R : Rg) (n : Int) : Pe := (R.kn n).getD pe0

/-- What a member knows, as a value. -/
def PeV (w : World) (D : Nat → Prop) (p : Pe) (v : Value) : Prop := ∃ a len cap, v = .agg #[.int .u64 p.id, .int .i64 p.pred, .slice a len cap] ∧ PeIn w p.id p.pred a len cap p.succ ∧ ∀ x, a = some x → ¬ D x.block
def KnOk (w : World) (D : Nat → Prop) : Option Pe → Option Value → Prop
  | none, none => True
  | some p, some v => PeV w D p v
  | _, _ => False

structure RingAt (w : World) (r gp gk : Nat) (R : Rg) : Prop where
  box : w.heap[r]? = some (.cells #[.map (some gp), .map (some gk)] 111 (0, 0))
  ne : gp ≠ gk
  places : ∃ m, MpAt w gp m ∧ ∀ k, look m k = (R.pl k).map (Value.int .u64)
  known : ∃ m, MpAt w gk m ∧ ∀ k, KnOk w R.cl (R.kn k) (look m k)
  ids : ∀ k x, R.pl k = some x → u64 x
  old : ∀ b, R.cl b → b < w.heap.size

theorem PeV.below {w w' : World} {D : Nat → Prop} {p : Pe} {v : Value} (h : PeV w D p v) (hb : Below w.heap.size w w') : PeV w' D p v := by
  obtain ⟨a, len, cap, e, h, hd⟩ := h
  exact ⟨a, len, cap, e, h.below (Nat.le_refl _) hb, hd⟩
theorem KnOk.below {w w' : World} {D : Nat → Prop} {p : Option Pe} {v : Option Value} (h : KnOk w D p v) (hb : Below w.heap.size w w') : KnOk w' D p v := by
  cases p <;> cases v <;> first | exact trivial | exact h.elim | exact PeV.below h hb
theorem RingAt.below {w w' : World} {r gp gk : Nat} {R : Rg} (h : RingAt w r gp gk R) (hb : Below w.heap.size w w') : RingAt w' r gp gk R := by
  obtain ⟨mp, hp, hp'⟩ := h.places
  obtain ⟨mk, hk, hk'⟩ := h.known
  have hr : r < w.heap.size := by
    rcases Nat.lt_or_ge r w.heap.size with q | q
    · exact q
    · have := h.box; rw [Array.getElem?_eq_none q] at this; cases this
  exact ⟨(hb.block r hr).trans h.box, h.ne, ⟨mp, hp.of_block (hb.block gp hp.lt), hp'⟩, ⟨mk, hk.of_block (hb.block gk hk.lt), fun k => (hk' k).below hb⟩, h.ids, fun b hb' => Nat.lt_of_lt_of_le (h.old b hb') hb.size⟩
theorem RingAt.lt {w : World} {r gp gk : Nat} {R : Rg} (h : RingAt w r gp gk R) : r < w.heap.size ∧ gp < w.heap.size ∧ gk < w.heap.size := by
  obtain ⟨mp, hp, hp'⟩ := h.places
  obtain ⟨mk, hk, hk'⟩ := h.known
  refine ⟨?_, hp.lt, hk.lt⟩
  rcases Nat.lt_or_ge r w.heap.size with q | q
  · exact q
  · have := h.box; rw [Array.getElem?_eq_none q] at this; cases this
theorem RingAt.c0 {w : World} {r gp gk : Nat} {R : Rg} (h : RingAt w r gp gk R) : w.cell? ⟨r, 0, none⟩ = some (.map (some gp)) := by simp [World.cell?, h.box]
theorem RingAt.c1 {w : World} {r gp gk : Nat} {R : Rg} (h : RingAt w r gp gk R) : w.cell? ⟨r, 1, none⟩ = some (.map (some gk)) := by simp [World.cell?, h.box]

theorem zero_pe (w : World) : (zeroValue 80).run Tryz.prog w = .ok (.agg #[.int .u64 0, .int .i64 0, .slice none 0 0]) w := by kernel_rfl
theorem zero_id (w : World) : (zeroValue 59).run Tryz.prog w = .ok (.int .u64 0) w := by kernel_rfl

/-- What a look-up of a member answers: found, or not. -/
theorem RingAt.found {w : World} {r gp gk : Nat} {R : Rg} (h : RingAt w r gp gk R) {n : Int} {p : Pe} (hn : R.kn n = some p) :
    ∃ a len cap, PeIn w p.id p.pred a len cap p.succ ∧
      (Instr.lookup 109 (.map (some gk)) (.int .i64 n) true).run Tryz.prog w = .ok (.tuple #[.agg #[.int .u64 p.id, .int .i64 p.pred, .slice a len cap], .bool true]) w ∧
      (Instr.lookup 109 (.map (some gk)) (.int .i64 n) false).run Tryz.prog w = .ok (.agg #[.int .u64 p.id, .int .i64 p.pred, .slice a len cap]) w := by
  obtain ⟨mk, hk, hk'⟩ := h.known
  have q := hk' n
  rw [hn] at q
  cases hl : look mk n with
  | none => rw [hl] at q; exact q.elim
  | some v =>
    rw [hl] at q
    obtain ⟨a, len, cap, rfl, hp, _⟩ := q
    exact ⟨a, len, cap, hp, run_look_some hk Tryz.underlying109 Tryz.underlying3 hl⟩
/-- Whatever list a look-up answers keeps clear of them. -/
theorem RingAt.clear {w : World} {r gp gk : Nat} {R : Rg} (h : RingAt w r gp gk R) {n : Int} {v0 v1 : Value} {a : Option Addr} {len cap : Nat}
    (hl : (Instr.lookup 109 (.map (some gk)) (.int .i64 n) false).run Tryz.prog w = .ok (.agg #[v0, v1, .slice a len cap]) w) : ∀ x, a = some x → ¬ R.cl x.block := by
  obtain ⟨mk, hk, hk'⟩ := h.known
  have q := hk' n
  cases hn : look mk n with
  | none =>
    have e := (run_look_none (P := Tryz.prog) hk Tryz.underlying109 Tryz.underlying3 (by kernel_rfl : (zeroValue 80).run Tryz.prog w = .ok (.agg #[.int .u64 0, .int .i64 0, .slice none 0 0]) w) hn).2
    rw [e] at hl
    simp at hl
    intro x hx
    rw [← hl.2.2.1] at hx
    cases hx
  | some v =>
    have e := (run_look_some (P := Tryz.prog) hk Tryz.underlying109 Tryz.underlying3 hn).2
    rw [e] at hl
    cases hp : R.kn n with
    | none => rw [hn, hp] at q; exact q.elim
    | some p =>
      rw [hn, hp] at q
      obtain ⟨a', len', cap', rfl, _, hd⟩ := q
      simp at hl
      intro x hx
      rw [← hl.2.2.1] at hx
      exact hd x hx
theorem RingAt.missed {w : World} {r gp gk : Nat} {R : Rg} (h : RingAt w r gp gk R) {n : Int} (hn : R.kn n = none) :
      (Instr.lookup 109 (.map (some gk)) (.int .i64 n) true).run Tryz.prog w = .ok (.tuple #[.agg #[.int .u64 0, .int .i64 0, .slice none 0 0], .bool false]) w ∧
      (Instr.lookup 109 (.map (some gk)) (.int .i64 n) false).run Tryz.prog w = .ok (.agg #[.int .u64 0, .int .i64 0, .slice none 0 0]) w := by
  obtain ⟨mk, hk, hk'⟩ := h.known
  have q := hk' n
  rw [hn] at q
  cases hl : look mk n with
  | none => exact run_look_none hk Tryz.underlying109 Tryz.underlying3 (zero_pe w) hl
  | some v => rw [hl] at q; exact q.elim
theorem pe0_in (w : World) : PeIn w 0 0 none 0 0 [] := ⟨by simp [u64], by simp [i64], ⟨rfl, by omega, .inl rfl⟩, by omega, by omega, fun _ => rfl⟩
/-- A look-up of a member, of whom nothing is asked first. -/
theorem RingAt.asked {w : World} {r gp gk : Nat} {R : Rg} (h : RingAt w r gp gk R) (n : Int) :
    ∃ a len cap, PeIn w (R.know n).id (R.know n).pred a len cap (R.know n).succ ∧
      (Instr.lookup 109 (.map (some gk)) (.int .i64 n) false).run Tryz.prog w = .ok (.agg #[.int .u64 (R.know n).id, .int .i64 (R.know n).pred, .slice a len cap]) w := by
  cases hn : R.kn n with
  | none => refine ⟨none, 0, 0, ?_, ?_⟩ <;> simp only [Rg.know, hn, Option.getD_none, pe0]; exact pe0_in w; exact (h.missed hn).2
  | some p =>
    obtain ⟨a, len, cap, h1, _, h2⟩ := h.found hn
    refine ⟨a, len, cap, ?_, ?_⟩ <;> simp only [Rg.know, hn, Option.getD_some]; exact h1; exact h2
theorem RingAt.place {w : World} {r gp gk : Nat} {R : Rg} (h : RingAt w r gp gk R) (n : Int) :
    (Instr.lookup 108 (.map (some gp)) (.int .i64 n) false).run Tryz.prog w = .ok (.int .u64 (R.idOf n)) w := by
  obtain ⟨m, hm, hm'⟩ := h.places
  have q := hm' n
  cases hn : R.pl n with
  | none => rw [hn] at q; have := (run_look_none hm Tryz.underlying108 Tryz.underlying3 (zero_id w) q).2; simpa [Rg.idOf, hn] using this
  | some x => rw [hn] at q; have := (run_look_some hm Tryz.underlying108 Tryz.underlying3 q).2; simpa [Rg.idOf, hn] using this
theorem RingAt.was {w : World} {r gp gk : Nat} {R : Rg} (h : RingAt w r gp gk R) (n : Int) :
    (Instr.lookup 108 (.map (some gp)) (.int .i64 n) true).run Tryz.prog w = .ok (.tuple #[.int .u64 (R.idOf n), .bool (R.pl n).isSome]) w := by
  obtain ⟨m, hm, hm'⟩ := h.places
  have q := hm' n
  cases hn : R.pl n with
  | none => rw [hn] at q; have := (run_look_none hm Tryz.underlying108 Tryz.underlying3 (zero_id w) q).1; simpa [Rg.idOf, hn] using this
  | some x => rw [hn] at q; have := (run_look_some hm Tryz.underlying108 Tryz.underlying3 q).1; simpa [Rg.idOf, hn] using this

set_option maxHeartbeats 1000000 in
theorem lives_r (r gp gk : Nat) (R : Rg) (n : Int) (w : World) (h : RingAt w r gp gk R) :
    Calls Tryz.prog 15 #[.pointer (some ⟨r, 0, none⟩), .int .i64 n] w fun e w' => e = .returned (.bool (R.lives n)) ∧ Below w.heap.size w w' := by
  have c0 := h.c0
  have c1 := h.c1
  have z := h.lt.1
  cases hn : R.kn n with
  | none =>
    have q := (h.missed hn).1
    have E : Hid (R.lives n = false) := (by simp [Rg.lives, hn] : R.lives n = false)
    clear h hn
    go_enter Tryz.func15, Tryz.ntmps15
    go_wp2
    go_ret
    exact ⟨ret_b E.out.symm, below_one _ _⟩
  | some p =>
    obtain ⟨a, len, cap, _, q, _⟩ := h.found hn
    have E : Hid (R.lives n = true) := (by simp [Rg.lives, hn] : R.lives n = true)
    clear h hn
    go_enter Tryz.func15, Tryz.ntmps15
    go_wp2
    go_ret
    exact ⟨ret_b E.out.symm, below_one _ _⟩

theorem id_r (r gp gk : Nat) (R : Rg) (n : Int) (w : World) (h : RingAt w r gp gk R) :
    Calls Tryz.prog 54 #[.pointer (some ⟨r, 0, none⟩), .int .i64 n] w fun e w' => e = .returned (.int .u64 (R.idOf n)) ∧ w' = w := by
  have c0 := h.c0
  have z := h.lt.1
  have q := h.place n
  clear h
  go_enter Tryz.func54, Tryz.ntmps54
  go_wp2
  go_ret
  exact ⟨rfl, rfl⟩
end Go.Proofs.YtmajlldfiiokoaaGreatDoor

/- peer.lives, Head, Nearer, Rectify, of a chord ring. -/
namespace Go.Proofs.YtmajlldfiiokoaaGreatDoor
open Go.ChangeShapes Go.WideShapes Go.ChangeAt Go.RowKit Go.Deep
set_option linter.unusedVariables false

/-- The first one that lives; -1: none. -/
def headF (L : Int → Bool) : List Int → Int
  | [] => -1
  | n :: l => if L n then n else headF L l
/-- Who lives, as layer 9 asks it. -/
def Rg.lv (R : Rg) (n : Int) : Bool := n != -1 && R.lives n
def Rg.near (R : Rg) (q frm tgt : Int) : Bool := R.lv q && (tgt != -1 && withinB (R.idOf q) frm (R.idOf tgt))
def Rg.rect (R : Rg) (id pred n : Int) : Int := if !R.lv pred || (n != -1 && withinB (R.idOf n) (R.idOf pred) id) then n else pred

theorem headF_drop (L : Int → Bool) (l : List Int) (k : Nat) (hk : k < l.length) : headF L (l.drop k) = if L (l.getD k 0) then l.getD k 0 else headF L (l.drop (k + 1)) := by
  rw [List.drop_eq_getElem_cons hk]
  have e : l.getD k 0 = l[k] := by simp [List.getD, hk]
  rw [e]; rfl

theorem mr_lives (a : Addr) (w : World) : (method 432 25 (.pointer (some a)) "Lives").run Tryz.prog w = .ok (15, .pointer (some a)) w := by kernel_rfl
theorem mr_id (a : Addr) (w : World) : (method 432 25 (.pointer (some a)) "Id").run Tryz.prog w = .ok (54, .pointer (some a)) w := by kernel_rfl
theorem mw_lives (v0 v1 : Value) (w : World) : (method 432 198 (.agg #[v0, v1]) "Lives").run Tryz.prog w = .ok (252, .agg #[v0, v1]) w := by kernel_rfl

set_option maxHeartbeats 1000000 in
theorem plives_r (r gp gk : Nat) (R : Rg) (n : Int) (w : World) (h : RingAt w r gp gk R) :
    Calls Tryz.prog 133 #[.int .i64 n, .iface 25 (.pointer (some ⟨r, 0, none⟩))] w fun e w' => e = .returned (.bool (R.lv n)) ∧ Below w.heap.size w w' := by
  have m1 := fun a w => mr_lives a w
  by_cases q : n = -1
  · subst q
    go_enter Tryz.func133, Tryz.ntmps133
    go_wp2
    go_ret
    exact ⟨rfl, Below.refl _ _⟩
  · have H : Hid (RingAt w r gp gk R) := h
    clear h
    go_enter Tryz.func133, Tryz.ntmps133
    go_wp2_with (go_at_call 15; refine (lives_r _ _ _ _ _ _ H.out).mono ?_; rintro e w' ⟨rfl, hb⟩)
    go_ret
    exact ⟨ret_b (by simp [Rg.lv]), hb⟩

set_option maxHeartbeats 1000000 in
theorem wlives_r (r gp gk : Nat) (R : Rg) (g n : Int) (w : World) (h : RingAt w r gp gk R) :
    Calls Tryz.prog 252 #[.agg #[.pointer (some ⟨r, 0, none⟩), .int .i64 g], .int .i64 n] w fun e w' => e = .returned (.bool (n != g && R.lives n)) ∧ Below w.heap.size w w' := by
  have H : Hid (RingAt w r gp gk R) := h
  clear h
  by_cases q : n = g
  · subst q
    have e : (n != n) = false := by simp
    go_enter Tryz.func252, Tryz.ntmps252
    go_wp2
    go_ret
    exact ⟨ret_b (by simp), below_one _ _⟩
  · have e : (n != g) = true := by simpa using q
    go_enter Tryz.func252, Tryz.ntmps252
    go_wp2_with (go_at_call 15; refine (lives_r _ _ _ _ _ _ (H.out.below (below_one _ _))).mono ?_; rintro e w' ⟨rfl, hb⟩)
    go_ret
    exact ⟨ret_b (by simp [e]), (below_one _ _).trans (hb.mono (by simp))⟩

set_option maxHeartbeats 1000000 in
theorem plives_w (r gp gk : Nat) (R : Rg) (g n : Int) (w : World) (h : RingAt w r gp gk R) :
    Calls Tryz.prog 133 #[.int .i64 n, .iface 198 (.agg #[.pointer (some ⟨r, 0, none⟩), .int .i64 g])] w fun e w' => e = .returned (.bool (n != -1 && (n != g && R.lives n))) ∧ Below w.heap.size w w' := by
  have m1 := fun a b w => mw_lives a b w
  by_cases q : n = -1
  · subst q
    go_enter Tryz.func133, Tryz.ntmps133
    go_wp2
    go_ret
    exact ⟨ret_b (by simp), Below.refl _ _⟩
  · have H : Hid (RingAt w r gp gk R) := h
    clear h
    go_enter Tryz.func133, Tryz.ntmps133
    go_wp2_with (go_at_call 252; refine (wlives_r _ _ _ _ _ _ _ H.out).mono ?_; rintro e w' ⟨rfl, hb⟩)
    go_ret
    exact ⟨rfl, hb⟩

/-- Head, of whomever is asked who lives. -/
theorem head_gen (kv : Value) (L : Int → Bool) (id pred : Value) (a : Option Addr) (len cap : Nat) (l : List Int) (w : World) (hl : InIn w a len l)
    (hK : ∀ w1, Below w.heap.size w w1 → ∀ n, Calls Tryz.prog 133 #[.int .i64 n, kv] w1 fun e w' => e = .returned (.bool (L n)) ∧ Below w1.heap.size w1 w') :
    Calls Tryz.prog 91 #[.agg #[id, pred, .slice a len cap], kv] w fun e w' => e = .returned (.int .i64 (headF L l)) ∧ Below w.heap.size w w' := by
  have HL : Hid (InIn w a len l) := hl
  have HN : Hid (l.length = len) := hl.1
  have HK : Hid (∀ w1, Below w.heap.size w w1 → ∀ n, Calls Tryz.prog 133 #[.int .i64 n, kv] w1 fun e w' => e = .returned (.bool (L n)) ∧ Below w1.heap.size w1 w') := hK
  have hm := hl.2.1
  clear hl hK
  go_enter Tryz.func91, Tryz.ntmps91
  go_wp2
  go_loopg [10] len (fun kx s wr => ∃ k : Nat, s = .int .i64 k ∧ k ≤ len ∧ kx = len - k ∧ Hid (Below w.heap.size w wr) ∧ Hid (headF L (l.drop k) = headF L l))
  case atStart => exact ⟨0, rfl, Nat.zero_le _, rfl, below_one _ _, (rfl : headF L (l.drop 0) = headF L l)⟩
  case round =>
    obtain ⟨k, rfl, hk, rfl, HB, I⟩ := hrel
    by_cases hlt : k < len
    · obtain ⟨b, o, rfl, hb, hx, hc⟩ := (HL.out.below (Nat.le_refl _) HB.out).one (v := Value.int .i64) (fun _ => rfl) (i := k) hlt
      have E : Hid (headF L (l.drop k) = if L (l.getD k 0) then l.getD k 0 else headF L (l.drop (k + 1))) := headF_drop L l k (by rw [HN.out]; exact hlt)
      generalize l.getD k 0 = x at hx hc E
      clear hx
      cases hq : L x
      all_goals
        have HQ : Hid _ := hq
        clear hq
        go_wp2_with (go_at_call 133; refine (HK.out _ HB.out _).mono ?_; rintro e w' ⟨rfl, hb'⟩; rw [HQ.out])
      · go_roundg (len - (k + 1))
        case measure => omega
        case rel => exact ⟨k + 1, by go_num, by omega, rfl, HB.out.trans (hb'.mono HB.out.size), by rw [← I.out, E.out, HQ.out]; rfl⟩
      · go_ret
        exact ⟨ret_i (by rw [← I.out, E.out, HQ.out]; rfl), HB.out.trans (hb'.mono HB.out.size)⟩
    · go_wp2
      go_ret
      exact ⟨ret_i (by rw [← I.out, List.drop_of_length_le (by rw [HN.out]; omega)]; rfl), HB.out⟩

theorem head_r (r gp gk : Nat) (R : Rg) (id pred : Value) (a : Option Addr) (len cap : Nat) (l : List Int) (w : World) (h : RingAt w r gp gk R) (hl : InIn w a len l) :
    Calls Tryz.prog 91 #[.agg #[id, pred, .slice a len cap], .iface 25 (.pointer (some ⟨r, 0, none⟩))] w fun e w' => e = .returned (.int .i64 (headF R.lv l)) ∧ Below w.heap.size w w' :=
  head_gen _ _ _ _ _ _ _ _ _ hl (fun w1 hb n => plives_r _ _ _ _ _ _ (h.below hb))
theorem head_w (r gp gk : Nat) (R : Rg) (g : Int) (id pred : Value) (a : Option Addr) (len cap : Nat) (l : List Int) (w : World) (h : RingAt w r gp gk R) (hl : InIn w a len l) :
    Calls Tryz.prog 91 #[.agg #[id, pred, .slice a len cap], .iface 198 (.agg #[.pointer (some ⟨r, 0, none⟩), .int .i64 g])] w fun e w' => e = .returned (.int .i64 (headF (fun n => n != -1 && (n != g && R.lives n)) l)) ∧ Below w.heap.size w w' :=
  head_gen _ (fun n => n != -1 && (n != g && R.lives n)) _ _ _ _ _ _ _ hl (fun w1 hb n => plives_w _ _ _ _ _ _ _ (h.below hb))

theorem rectF_no {R : Rg} {id pred n : Int} (h : R.lv pred = true) (h2 : (n != -1 && withinB (R.idOf n) (R.idOf pred) id) = false) : R.rect id pred n = pred := by
  unfold Rg.rect; rw [h, h2]; rfl
theorem rectF_dead {R : Rg} {id pred n : Int} (h : R.lv pred = false) : R.rect id pred n = n := by
  unfold Rg.rect; rw [h]; rfl
theorem rectF_in {R : Rg} {id pred n : Int} (h : (n != -1 && withinB (R.idOf n) (R.idOf pred) id) = true) : R.rect id pred n = n := by
  unfold Rg.rect; rw [h]; simp

set_option maxHeartbeats 2000000 in
theorem rectify_r (r gp gk : Nat) (R : Rg) (id pred n : Int) (sa : Option Addr) (sl sc : Nat) (w : World) (h : RingAt w r gp gk R) :
    Calls Tryz.prog 94 #[.agg #[.int .u64 id, .int .i64 pred, .slice sa sl sc], .int .i64 n, .iface 25 (.pointer (some ⟨r, 0, none⟩))] w fun e w' => e = .returned (.agg #[.int .u64 id, .int .i64 (R.rect id pred n), .slice sa sl sc]) ∧ Below w.heap.size w w' := by
  have m1 := fun a w => mr_id a w
  obtain ⟨W0, hW0⟩ : ∃ W0, W0 = (w.alloc (.cells #[.int .u64 id, .int .i64 pred, .slice sa sl sc] 80)).alloc (.cells #[.int .u64 0, .int .i64 0, .slice none 0 0] 80) := ⟨_, rfl⟩
  have b0 : Below w.heap.size w W0 := by rw [hW0]; exact (below_one _ _).trans ((below_one _ _).mono (by simp))
  have s0 : W0.heap.size = w.heap.size + 2 := by rw [hW0]; simp
  have f0 : W0.cell? ⟨w.heap.size, 0, none⟩ = some (.int .u64 id) := by rw [hW0]; simp
  have f1 : W0.cell? ⟨w.heap.size, 1, none⟩ = some (.int .i64 pred) := by rw [hW0]; simp
  have f2 : W0.cell? ⟨w.heap.size, 2, none⟩ = some (.slice sa sl sc) := by rw [hW0]; simp
  have g0 : W0.cell? ⟨w.heap.size + 1, 0, none⟩ = some (.int .u64 0) := by rw [hW0]; simp
  have g1 : W0.cell? ⟨w.heap.size + 1, 1, none⟩ = some (.int .i64 0) := by rw [hW0]; simp
  have g2 : W0.cell? ⟨w.heap.size + 1, 2, none⟩ = some (.slice none 0 0) := by rw [hW0]; simp
  have k0 : ∀ o, W0.frozen? ⟨w.heap.size, o, none⟩ = false := fun o => by rw [hW0]; simp
  have k1 : ∀ o, W0.frozen? ⟨w.heap.size + 1, o, none⟩ = false := fun o => by rw [hW0]; simp
  have HK : Hid ((∀ o, W0.frozen? ⟨w.heap.size, o, none⟩ = false) ∧ (∀ o, W0.frozen? ⟨w.heap.size + 1, o, none⟩ = false)) := ⟨k0, k1⟩
  clear k0 k1
  have A0 : Hid (RingAt W0 r gp gk R) := h.below b0
  clear h
  obtain ⟨ι, F, _, hF0, hFb, hFc⟩ := grown_fam W0
  have F0 : ∀ i, (F i).cell? ⟨w.heap.size, 0, none⟩ = some (.int .u64 id) := fun i => cell_grown f0 (hFb i)
  have F1 : ∀ i, (F i).cell? ⟨w.heap.size, 1, none⟩ = some (.int .i64 pred) := fun i => cell_grown f1 (hFb i)
  have HF : Hid ((∃ i, { W0 with drawn := W0.drawn + 1 } = F i) ∧ (∀ i, Below W0.heap.size W0 (F i)) ∧ (∀ i W, Below W0.heap.size (F i) W → ∃ j, W = F j)) := ⟨hF0, hFb, hFc⟩
  have HG : Hid (W0.cell? ⟨w.heap.size, 0, none⟩ = some (.int .u64 id) ∧ W0.cell? ⟨w.heap.size, 1, none⟩ = some (.int .i64 pred) ∧ W0.cell? ⟨w.heap.size, 2, none⟩ = some (.slice sa sl sc) ∧ W0.cell? ⟨w.heap.size + 1, 0, none⟩ = some (.int .u64 0) ∧ W0.cell? ⟨w.heap.size + 1, 1, none⟩ = some (.int .i64 0) ∧ W0.cell? ⟨w.heap.size + 1, 2, none⟩ = some (.slice none 0 0)) := ⟨f0, f1, f2, g0, g1, g2⟩
  have B0 : Hid (Below w.heap.size w W0 ∧ W0.heap.size = w.heap.size + 2) := ⟨b0, s0⟩
  clear hF0 hFb hFc b0 s0 f0 f1 f2 g0 g1 g2
  cases hq : R.lv pred
  · have HQ : Hid _ := hq
    have HR : Hid (R.rect id pred n = n) := rectF_dead hq
    clear hq
    go_enter Tryz.func94, Tryz.ntmps94
    go_wp2_with fail
    rw [← hW0]
    clear hW0
    refine wp_region_fam F HF.out.1 (by kernel_rfl) (by kernel_rfl) ?_
    repeat (go_big_quiet_step (first
      | (go_at_call 133; refine (plives_r _ _ _ _ _ _ (A0.out.below (HF.out.2.1 _))).mono ?_; rintro e' w' ⟨hs, hb⟩; exact ⟨by rw [hs, HQ.out], HF.out.2.2 _ _ (hb.mono (HF.out.2.1 _).size)⟩)))
    refine wpQuiet_nil ?_
    rintro _ ⟨i, rfl⟩
    have BF := HF.out.2.1 i
    have BW : Hid (Below w.heap.size w (F i)) := B0.out.1.trans (BF.mono B0.out.1.size)
    have c0 := cell_grown HG.out.1 BF
    have c1 := cell_grown HG.out.2.1 BF
    have c2 := cell_grown HG.out.2.2.1 BF
    have c3 := cell_grown HG.out.2.2.2.1 BF
    have c4 := cell_grown HG.out.2.2.2.2.1 BF
    have c5 := cell_grown HG.out.2.2.2.2.2 BF
    have z0 : w.heap.size < (F i).heap.size := by have := BF.size; have := B0.out.2; omega
    have z1 : w.heap.size + 1 < (F i).heap.size := by have := BF.size; have := B0.out.2; omega
    have k0 : ∀ o, (F i).frozen? ⟨w.heap.size, o, none⟩ = false := fun o => (BF.frozen (p := ⟨w.heap.size, o, none⟩) (by have := B0.out.2; show w.heap.size < _; omega)).trans (HK.out.1 o)
    have k1 : ∀ o, (F i).frozen? ⟨w.heap.size + 1, o, none⟩ = false := fun o => (BF.frozen (p := ⟨w.heap.size + 1, o, none⟩) (by have := B0.out.2; show w.heap.size + 1 < _; omega)).trans (HK.out.2 o)
    generalize F i = Wn at k0 k1 BW c0 c1 c2 c3 c4 c5 z0 z1
    clear BF F0 F1 HF HG B0 A0
    go_wp2
    refine bodyPost_ret (v := .agg #[.int .u64 id, .int .i64 n, .slice sa sl sc]) (by simp [results, Tryz.results94, go_sem, *]) rfl ⟨by rw [HR.out], ?_⟩
    exact BW.out.trans (((((Below.refl _ _).setCell (by simp) _).setCell (by simp) _).setCell (by simp) _).setCell (by simp) _)
  · have HQ : Hid _ := hq
    by_cases hn1 : n = -1
    · subst hn1
      have HR : Hid (R.rect id pred (-1) = pred) := rectF_no hq rfl
      clear hq
      go_enter Tryz.func94, Tryz.ntmps94
      go_wp2_with fail
      rw [← hW0]
      clear hW0
      refine wp_region_fam F HF.out.1 (by kernel_rfl) (by kernel_rfl) ?_
      repeat (go_big_quiet_step (first
        | (go_at_call 133; refine (plives_r _ _ _ _ _ _ (A0.out.below (HF.out.2.1 _))).mono ?_; rintro e' w' ⟨hs, hb⟩; exact ⟨by rw [hs, HQ.out], HF.out.2.2 _ _ (hb.mono (HF.out.2.1 _).size)⟩)))
      refine wpQuiet_nil ?_
      rintro _ ⟨i, rfl⟩
      have BF := HF.out.2.1 i
      have BW : Hid (Below w.heap.size w (F i)) := B0.out.1.trans (BF.mono B0.out.1.size)
      have c0 := cell_grown HG.out.1 BF
      have c1 := cell_grown HG.out.2.1 BF
      have c2 := cell_grown HG.out.2.2.1 BF
      have c3 := cell_grown HG.out.2.2.2.1 BF
      have c4 := cell_grown HG.out.2.2.2.2.1 BF
      have c5 := cell_grown HG.out.2.2.2.2.2 BF
      have z0 : w.heap.size < (F i).heap.size := by have := BF.size; have := B0.out.2; omega
      have z1 : w.heap.size + 1 < (F i).heap.size := by have := BF.size; have := B0.out.2; omega
      have k0 : ∀ o, (F i).frozen? ⟨w.heap.size, o, none⟩ = false := fun o => (BF.frozen (p := ⟨w.heap.size, o, none⟩) (by have := B0.out.2; show w.heap.size < _; omega)).trans (HK.out.1 o)
      have k1 : ∀ o, (F i).frozen? ⟨w.heap.size + 1, o, none⟩ = false := fun o => (BF.frozen (p := ⟨w.heap.size + 1, o, none⟩) (by have := B0.out.2; show w.heap.size + 1 < _; omega)).trans (HK.out.2 o)
      generalize F i = Wn at k0 k1 BW c0 c1 c2 c3 c4 c5 z0 z1
      clear BF F0 F1 HF HG B0 A0
      go_wp2
      refine bodyPost_ret (v := .agg #[.int .u64 id, .int .i64 pred, .slice sa sl sc]) (by simp [results, Tryz.results94, go_sem, *]) rfl ⟨by rw [HR.out], ?_⟩
      exact BW.out.trans ((((Below.refl _ _).setCell (by simp) _).setCell (by simp) _).setCell (by simp) _)
    · have hne : (n != -1) = true := by simpa using hn1
      cases hwi : withinB (R.idOf n) (R.idOf pred) id
      · have HR : Hid (R.rect id pred n = pred) := rectF_no hq (by rw [hwi]; simp)
        have HW : Hid _ := hwi
        clear hq hwi
        go_enter Tryz.func94, Tryz.ntmps94
        go_wp2_with fail
        rw [← hW0]
        clear hW0
        refine wp_region_fam F HF.out.1 (by kernel_rfl) (by kernel_rfl) ?_
        repeat (go_big_quiet_step (first
          | (go_at_call 133; refine (plives_r _ _ _ _ _ _ (A0.out.below (HF.out.2.1 _))).mono ?_; rintro e' w' ⟨hs, hb⟩; exact ⟨by rw [hs, HQ.out], HF.out.2.2 _ _ (hb.mono (HF.out.2.1 _).size)⟩)
          | (refine (id_r _ _ _ _ _ _ (A0.out.below (HF.out.2.1 _))).mono ?_; rintro e' w' ⟨hs, hb⟩; exact ⟨hs, _, hb⟩)
          | (go_at_call 125; refine (within_any _ _ _ _).mono ?_; rintro e' w' ⟨hs, hb⟩; exact ⟨by rw [hs, HW.out], _, hb⟩)))
        refine wpQuiet_nil ?_
        rintro _ ⟨i, rfl⟩
        have BF := HF.out.2.1 i
        have BW : Hid (Below w.heap.size w (F i)) := B0.out.1.trans (BF.mono B0.out.1.size)
        have c0 := cell_grown HG.out.1 BF
        have c1 := cell_grown HG.out.2.1 BF
        have c2 := cell_grown HG.out.2.2.1 BF
        have c3 := cell_grown HG.out.2.2.2.1 BF
        have c4 := cell_grown HG.out.2.2.2.2.1 BF
        have c5 := cell_grown HG.out.2.2.2.2.2 BF
        have z0 : w.heap.size < (F i).heap.size := by have := BF.size; have := B0.out.2; omega
        have z1 : w.heap.size + 1 < (F i).heap.size := by have := BF.size; have := B0.out.2; omega
        have k0 : ∀ o, (F i).frozen? ⟨w.heap.size, o, none⟩ = false := fun o => (BF.frozen (p := ⟨w.heap.size, o, none⟩) (by have := B0.out.2; show w.heap.size < _; omega)).trans (HK.out.1 o)
        have k1 : ∀ o, (F i).frozen? ⟨w.heap.size + 1, o, none⟩ = false := fun o => (BF.frozen (p := ⟨w.heap.size + 1, o, none⟩) (by have := B0.out.2; show w.heap.size + 1 < _; omega)).trans (HK.out.2 o)
        generalize F i = Wn at k0 k1 BW c0 c1 c2 c3 c4 c5 z0 z1
        clear BF F0 F1 HF HG B0 A0
        go_wp2
        refine bodyPost_ret (v := .agg #[.int .u64 id, .int .i64 pred, .slice sa sl sc]) (by simp [results, Tryz.results94, go_sem, *]) rfl ⟨by rw [HR.out], ?_⟩
        exact BW.out.trans ((((Below.refl _ _).setCell (by simp) _).setCell (by simp) _).setCell (by simp) _)
      · have HR : Hid (R.rect id pred n = n) := rectF_in (by rw [hwi, hne]; rfl)
        have HW : Hid _ := hwi
        clear hq hwi
        go_enter Tryz.func94, Tryz.ntmps94
        go_wp2_with fail
        rw [← hW0]
        clear hW0
        refine wp_region_fam F HF.out.1 (by kernel_rfl) (by kernel_rfl) ?_
        repeat (go_big_quiet_step (first
          | (go_at_call 133; refine (plives_r _ _ _ _ _ _ (A0.out.below (HF.out.2.1 _))).mono ?_; rintro e' w' ⟨hs, hb⟩; exact ⟨by rw [hs, HQ.out], HF.out.2.2 _ _ (hb.mono (HF.out.2.1 _).size)⟩)
          | (refine (id_r _ _ _ _ _ _ (A0.out.below (HF.out.2.1 _))).mono ?_; rintro e' w' ⟨hs, hb⟩; exact ⟨hs, _, hb⟩)
          | (go_at_call 125; refine (within_any _ _ _ _).mono ?_; rintro e' w' ⟨hs, hb⟩; exact ⟨by rw [hs, HW.out], _, hb⟩)))
        refine wpQuiet_nil ?_
        rintro _ ⟨i, rfl⟩
        have BF := HF.out.2.1 i
        have BW : Hid (Below w.heap.size w (F i)) := B0.out.1.trans (BF.mono B0.out.1.size)
        have c0 := cell_grown HG.out.1 BF
        have c1 := cell_grown HG.out.2.1 BF
        have c2 := cell_grown HG.out.2.2.1 BF
        have c3 := cell_grown HG.out.2.2.2.1 BF
        have c4 := cell_grown HG.out.2.2.2.2.1 BF
        have c5 := cell_grown HG.out.2.2.2.2.2 BF
        have z0 : w.heap.size < (F i).heap.size := by have := BF.size; have := B0.out.2; omega
        have z1 : w.heap.size + 1 < (F i).heap.size := by have := BF.size; have := B0.out.2; omega
        have k0 : ∀ o, (F i).frozen? ⟨w.heap.size, o, none⟩ = false := fun o => (BF.frozen (p := ⟨w.heap.size, o, none⟩) (by have := B0.out.2; show w.heap.size < _; omega)).trans (HK.out.1 o)
        have k1 : ∀ o, (F i).frozen? ⟨w.heap.size + 1, o, none⟩ = false := fun o => (BF.frozen (p := ⟨w.heap.size + 1, o, none⟩) (by have := B0.out.2; show w.heap.size + 1 < _; omega)).trans (HK.out.2 o)
        generalize F i = Wn at k0 k1 BW c0 c1 c2 c3 c4 c5 z0 z1
        clear BF F0 F1 HF HG B0 A0
        go_wp2
        refine bodyPost_ret (v := .agg #[.int .u64 id, .int .i64 n, .slice sa sl sc]) (by simp [results, Tryz.results94, go_sem, *]) rfl ⟨by rw [HR.out], ?_⟩
        exact BW.out.trans (((((Below.refl _ _).setCell (by simp) _).setCell (by simp) _).setCell (by simp) _).setCell (by simp) _)
end Go.Proofs.YtmajlldfiiokoaaGreatDoor

/- peer.Nearer of a chord ring; add: a member more. -/
namespace Go.Proofs.YtmajlldfiiokoaaGreatDoor
open Go.ChangeShapes Go.WideShapes Go.ChangeAt Go.RowKit Go.Deep
set_option linter.unusedVariables false

set_option maxHeartbeats 1000000 in
theorem nearer_r (r gp gk : Nat) (R : Rg) (q frm tgt : Int) (w : World) (h : RingAt w r gp gk R) :
    Calls Tryz.prog 92 #[.int .i64 q, .int .u64 frm, .int .i64 tgt, .iface 25 (.pointer (some ⟨r, 0, none⟩))] w fun e w' => e = .returned (.bool (R.near q frm tgt)) ∧ Below w.heap.size w w' := by
  have m1 := fun a w => mr_id a w
  have H : Hid (RingAt w r gp gk R) := h
  clear h
  cases hq : R.lv q
  · have HQ : Hid _ := hq
    have E : Hid (R.near q frm tgt = false) := (by simp [Rg.near, hq] : R.near q frm tgt = false)
    clear hq
    go_enter Tryz.func92, Tryz.ntmps92
    go_wp2_with (go_at_call 133; refine (plives_r _ _ _ _ _ _ H.out).mono ?_; rintro e w' ⟨rfl, hb⟩; rw [HQ.out])
    go_ret
    exact ⟨ret_b E.out.symm, hb⟩
  · have HQ : Hid _ := hq
    by_cases ht : tgt = -1
    · subst ht
      have E : Hid (R.near q frm (-1) = false) := (by simp [Rg.near] : R.near q frm (-1) = false)
      clear hq
      go_enter Tryz.func92, Tryz.ntmps92
      go_wp2_with (go_at_call 133; refine (plives_r _ _ _ _ _ _ H.out).mono ?_; rintro e w' ⟨rfl, hb⟩; rw [HQ.out])
      go_ret
      exact ⟨ret_b E.out.symm, hb⟩
    · have ht1 : (tgt != -1) = true := by simpa using ht
      have E : Hid (R.near q frm tgt = withinB (R.idOf q) frm (R.idOf tgt)) := (by simp [Rg.near, hq, ht1] : R.near q frm tgt = withinB (R.idOf q) frm (R.idOf tgt))
      clear hq
      go_enter Tryz.func92, Tryz.ntmps92
      go_wp2_with (first
        | (go_at_call 133; refine (plives_r _ _ _ _ _ _ H.out).mono ?_; rintro e w' ⟨rfl, hb⟩; rw [HQ.out]; have HB : Hid (Below w.heap.size w w') := hb; clear hb)
        | (go_at_call 125; refine (within_any _ _ _ _).mono ?_; rintro e w'' ⟨rfl, rfl⟩)
        | (refine (id_r _ _ _ _ _ _ (H.out.below HB.out)).mono ?_; rintro e w'' ⟨rfl, rfl⟩))
      go_ret
      exact ⟨ret_b (by rw [E.out]; try simp), HB.out⟩

/-- What stays when the ring's two maps alone are written. -/
structure Kp (w w' : World) (gp gk : Nat) : Prop where
  os : w'.os = w.os
  tape : w'.tape = w.tape
  output : w'.output = w.output
  size : w.heap.size ≤ w'.heap.size
  block : ∀ b, b < w.heap.size → b ≠ gp → b ≠ gk → w'.heap[b]? = w.heap[b]?
theorem Kp.refl (w : World) (gp gk : Nat) : Kp w w gp gk := ⟨rfl, rfl, rfl, Nat.le_refl _, fun _ _ _ _ => rfl⟩
theorem Kp.trans {a b c : World} {gp gk : Nat} (h : Kp a b gp gk) (h' : Kp b c gp gk) : Kp a c gp gk :=
  ⟨h'.os.trans h.os, h'.tape.trans h.tape, h'.output.trans h.output, Nat.le_trans h.size h'.size, fun x hx h1 h2 => (h'.block x (Nat.lt_of_lt_of_le hx h.size) h1 h2).trans (h.block x hx h1 h2)⟩
theorem Kp.ofBelow {a b : World} {gp gk : Nat} (h : Below a.heap.size a b) : Kp a b gp gk := ⟨h.os, h.tape, h.output, h.size, fun x hx _ _ => h.block x hx⟩
theorem Kp.below {w w' : World} {gp gk B : Nat} (h : Kp w w' gp gk) (h1 : B ≤ gp) (h2 : B ≤ gk) (hB : B ≤ w.heap.size) : Below B w w' :=
  ⟨h.os, h.tape, h.output, h.size, fun x hx => h.block x (by omega) (by omega) (by omega)⟩
theorem Kp.cell {w w' : World} {gp gk : Nat} (h : Kp w w' gp gk) {a : Addr} {v : Value} (hc : w.cell? a = some v) (h1 : a.block ≠ gp) (h2 : a.block ≠ gk) : w'.cell? a = some v := by
  rw [← hc]
  exact World.cell?_of_block (h.block a.block (cell_block hc) h1 h2)
theorem Kp.drawn (w : World) (n gp gk : Nat) : Kp w { w with drawn := n } gp gk := ⟨rfl, rfl, rfl, Nat.le_refl _, fun _ _ _ _ => rfl⟩
theorem Kp.setP (w : World) (gp gk : Nat) (o : Obj) : Kp w (setMap w gp o) gp gk := ⟨rfl, rfl, rfl, by simp [setMap], fun b _ h1 _ => by simp [setMap, Array.getElem?_setIfInBounds_ne (Ne.symm h1)]⟩
theorem Kp.setK (w : World) (gp gk : Nat) (o : Obj) : Kp w (setMap w gk o) gp gk := ⟨rfl, rfl, rfl, by simp [setMap], fun b _ _ h1 => by simp [setMap, Array.getElem?_setIfInBounds_ne (Ne.symm h1)]⟩

theorem InRow.kp {w w' : World} {gp gk : Nat} {a : Option Addr} {len : Nat} {l : List Int} (h : InIn w a len l) (hk : Kp w w' gp gk) {mp mk : List (Int × Value)} (h1 : MpAt w gp mp) (h2 : MpAt w gk mk) : InIn w' a len l := by
  refine ⟨h.1, h.2.1, ?_⟩
  rcases h.2.2 with h0 | ⟨b, o, ha, hlt, hc⟩
  · exact .inl h0
  · by_cases h0 : len = 0
    · exact .inl h0
    have hx := (hc 0 (by omega)).2 0 (by omega)
    have n1 : b ≠ gp := fun e => by rw [e, h1.no_cell] at hx; simp [encI] at hx
    have n2 : b ≠ gk := fun e => by rw [e, h2.no_cell] at hx; simp [encI] at hx
    refine .inr ⟨b, o, ha, by have := hk.size; omega, fun i hi => ⟨(hc i hi).1, fun j hj => ?_⟩⟩
    rw [World.cell?_of_block (hk.block b hlt n1 n2)]
    exact (hc i hi).2 j hj
theorem PeIn.kp {w w' : World} {gp gk : Nat} {id pred : Int} {a : Option Addr} {len cap : Nat} {l : List Int} (h : PeIn w id pred a len cap l) (hk : Kp w w' gp gk) {mp mk : List (Int × Value)} (h1 : MpAt w gp mp) (h2 : MpAt w gk mk) : PeIn w' id pred a len cap l :=
  ⟨h.hid, h.hpred, InRow.kp h.row hk h1 h2, h.hcap, h.hmost, h.hnil⟩
theorem PeV.kp {w w' : World} {D : Nat → Prop} {gp gk : Nat} {p : Pe} {v : Value} (h : PeV w D p v) (hk : Kp w w' gp gk) {mp mk : List (Int × Value)} (h1 : MpAt w gp mp) (h2 : MpAt w gk mk) : PeV w' D p v := by
  obtain ⟨a, len, cap, e, h, hd⟩ := h
  exact ⟨a, len, cap, e, h.kp hk h1 h2, hd⟩
theorem KnOk.kp {w w' : World} {D : Nat → Prop} {gp gk : Nat} {p : Option Pe} {v : Option Value} (h : KnOk w D p v) (hk : Kp w w' gp gk) {mp mk : List (Int × Value)} (h1 : MpAt w gp mp) (h2 : MpAt w gk mk) : KnOk w' D p v := by
  cases p <;> cases v <;> first | exact trivial | exact h.elim | exact PeV.kp h hk h1 h2

def upd {α : Type} (f : Int → α) (n : Int) (x : α) : Int → α := fun k => if k = n then x else f k
/-- A place more. -/
def Rg.setP (R : Rg) (n id : Int) : Rg := ⟨upd R.pl n (some id), R.kn, R.cl⟩
/-- A member knows this. -/
def Rg.setK (R : Rg) (n : Int) (p : Pe) : Rg := ⟨R.pl, upd R.kn n (some p), R.cl⟩
/-- A member is gone. -/
def Rg.delK (R : Rg) (n : Int) : Rg := ⟨R.pl, upd R.kn n none, R.cl⟩

theorem box_ne {w : World} {r gp gk : Nat} {R : Rg} (h : RingAt w r gp gk R) : r ≠ gp ∧ r ≠ gk := by
  obtain ⟨mp, ⟨_, es, c, hp, _⟩, _⟩ := h.places
  obtain ⟨mk, ⟨_, es', c', hk, _⟩, _⟩ := h.known
  refine ⟨fun e => ?_, fun e => ?_⟩
  · have := h.box; rw [e, hp] at this; cases this
  · have := h.box; rw [e, hk] at this; cases this

/-- A store into the places. -/
theorem RingAt.putP {w : World} {r gp gk : Nat} {R : Rg} (h : RingAt w r gp gk R) (n id : Int) (hid : u64 id) :
    ∃ w', (Instr.mapUpdate 108 (.map (some gp)) (.int .i64 n) (.int .u64 id)).run Tryz.prog w = .ok () w' ∧ RingAt w' r gp gk (R.setP n id) ∧ Kp w w' gp gk := by
  obtain ⟨mp, hp, hp'⟩ := h.places
  obtain ⟨mk, hk, hk'⟩ := h.known
  obtain ⟨o, h1, h2⟩ := run_put (P := Tryz.prog) hp Tryz.underlying108 Tryz.underlying3 n (.int .u64 id)
  have kp := Kp.setP w gp gk o
  have bn := box_ne h
  refine ⟨_, h1, ⟨(kp.block r h.lt.1 bn.1 bn.2).trans h.box, h.ne, ⟨_, h2, fun k => ?_⟩, ⟨mk, hk.of_block (by simp [setMap, Array.getElem?_setIfInBounds_ne h.ne]), fun k => (hk' k).kp kp hp hk⟩, fun k x hx => ?_, fun b hb => Nat.lt_of_lt_of_le (h.old b hb) kp.size⟩, kp⟩
  · rw [look_put, hp']
    simp only [Rg.setP, upd]
    split <;> rfl
  · simp only [Rg.setP, upd] at hx
    split at hx
    · cases hx; exact hid
    · exact h.ids k x hx
/-- A store into what is known. -/
theorem RingAt.putK {w : World} {r gp gk : Nat} {R : Rg} (h : RingAt w r gp gk R) (n : Int) (p : Pe) {a : Option Addr} {len cap : Nat} (hv : PeIn w p.id p.pred a len cap p.succ) (hd : ∀ x, a = some x → ¬ R.cl x.block) :
    ∃ w', (Instr.mapUpdate 109 (.map (some gk)) (.int .i64 n) (.agg #[.int .u64 p.id, .int .i64 p.pred, .slice a len cap])).run Tryz.prog w = .ok () w' ∧ RingAt w' r gp gk (R.setK n p) ∧ Kp w w' gp gk := by
  obtain ⟨mp, hp, hp'⟩ := h.places
  obtain ⟨mk, hk, hk'⟩ := h.known
  obtain ⟨o, h1, h2⟩ := run_put (P := Tryz.prog) hk Tryz.underlying109 Tryz.underlying3 n (.agg #[.int .u64 p.id, .int .i64 p.pred, .slice a len cap])
  have kp := Kp.setK w gp gk o
  have bn := box_ne h
  refine ⟨_, h1, ⟨(kp.block r h.lt.1 bn.1 bn.2).trans h.box, h.ne, ⟨mp, hp.of_block (by simp [setMap, Array.getElem?_setIfInBounds_ne (Ne.symm h.ne)]), hp'⟩, ⟨_, h2, fun k => ?_⟩, h.ids, fun b hb => Nat.lt_of_lt_of_le (h.old b hb) kp.size⟩, kp⟩
  rw [look_put]
  simp only [Rg.setK, upd]
  split
  · exact ⟨a, len, cap, rfl, hv.kp kp hp hk, hd⟩
  · exact (hk' k).kp kp hp hk
/-- A delete out of what is known. -/
theorem RingAt.del {w : World} {r gp gk : Nat} {R : Rg} (h : RingAt w r gp gk R) (n : Int) (ty ty2 : TypeId) :
    ∃ w', (Builtin.delete_ #[109, ty2] ty #[.map (some gk), .int .i64 n]).run Tryz.prog w = .ok (.tuple #[]) w' ∧ RingAt w' r gp gk (R.delK n) ∧ Kp w w' gp gk := by
  obtain ⟨mp, hp, hp'⟩ := h.places
  obtain ⟨mk, hk, hk'⟩ := h.known
  obtain ⟨o, h1, h2⟩ := run_del (P := Tryz.prog) hk Tryz.underlying109 Tryz.underlying3 n ty ty2
  have kp := Kp.setK w gp gk o
  have bn := box_ne h
  refine ⟨_, h1, ⟨(kp.block r h.lt.1 bn.1 bn.2).trans h.box, h.ne, ⟨mp, hp.of_block (by simp [setMap, Array.getElem?_setIfInBounds_ne (Ne.symm h.ne)]), hp'⟩, ⟨_, h2, fun k => ?_⟩, h.ids, fun b hb => Nat.lt_of_lt_of_le (h.old b hb) kp.size⟩, kp⟩
  rw [look_del hk.1]
  simp only [Rg.delK, upd]
  split
  · exact trivial
  · exact (hk' k).kp kp hp hk
theorem RingAt.drew {w : World} {r gp gk : Nat} {R : Rg} (h : RingAt w r gp gk R) (n : Nat) : RingAt { w with drawn := n } r gp gk R := h.below (w' := { w with drawn := n }) ⟨rfl, rfl, rfl, Nat.le_refl _, fun _ _ => rfl⟩

set_option maxHeartbeats 2000000 in
theorem add_r (r gp gk : Nat) (R : Rg) (n : Int) (p : Pe) (a : Option Addr) (len cap : Nat) (w : World) (h : RingAt w r gp gk R) (hp : PeIn w p.id p.pred a len cap p.succ) (hd : ∀ x, a = some x → ¬ R.cl x.block) :
    Calls Tryz.prog 76 #[.pointer (some ⟨r, 0, none⟩), .int .i64 n, .agg #[.int .u64 p.id, .int .i64 p.pred, .slice a len cap]] w fun e w' => e = .returned (.tuple #[]) ∧ RingAt w' r gp gk ((R.setP n p.id).setK n p) ∧ Kp w w' gp gk := by
  obtain ⟨W1, hW1⟩ : ∃ W1, W1 = w.alloc (.cells #[.int .u64 p.id, .int .i64 p.pred, .slice a len cap] 80) := ⟨_, rfl⟩
  have b1 : Below w.heap.size w W1 := by rw [hW1]; exact below_one _ _
  have h1 := h.below b1
  have k0 : W1.cell? ⟨w.heap.size, 0, none⟩ = some (.int .u64 p.id) := by rw [hW1]; simp
  have k1 : W1.cell? ⟨w.heap.size, 1, none⟩ = some (.int .i64 p.pred) := by rw [hW1]; simp
  have k2 : W1.cell? ⟨w.heap.size, 2, none⟩ = some (.slice a len cap) := by rw [hW1]; simp
  obtain ⟨w2, e2, h2, kp2⟩ := (h1.drew (W1.drawn + 1)).putP n p.id hp.hid
  have e2' : (Instr.mapUpdate 108 (.map (some gp)) (.int .i64 n) (.int .u64 p.id)).run Tryz.prog W1.drew = .ok () w2 := e2
  have kp12 : Kp W1 w2 gp gk := (Kp.drawn W1 (W1.drawn + 1) gp gk).trans kp2
  have hlt := h.lt
  have n1 : w.heap.size ≠ gp := by omega
  have n2 : w.heap.size ≠ gk := by omega
  obtain ⟨mp, hmp, _⟩ := h.places
  obtain ⟨mk, hmk, _⟩ := h.known
  have hp2 : PeIn w2 p.id p.pred a len cap p.succ := (hp.below (Nat.le_refl _) b1).kp kp12 (hmp.of_block (b1.block _ hmp.lt)) (hmk.of_block (b1.block _ hmk.lt))
  obtain ⟨w3, e3, h3, kp3⟩ := (h2.drew (w2.drawn + 1)).putK n p (hp2.below (Nat.le_refl _) (w' := { w2 with drawn := w2.drawn + 1 }) ⟨rfl, rfl, rfl, Nat.le_refl _, fun _ _ => rfl⟩) hd
  have e3' : (Instr.mapUpdate 109 (.map (some gk)) (.int .i64 n) (.agg #[.int .u64 p.id, .int .i64 p.pred, .slice a len cap])).run Tryz.prog w2.drew = .ok () w3 := e3
  have kp23 : Kp w2 w3 gp gk := (Kp.drawn w2 (w2.drawn + 1) gp gk).trans kp3
  have x0 := h1.c0
  have x1 := h1.c1
  have y1 := h2.c1
  have j0 := kp12.cell k0 n1 n2
  have j1 := kp12.cell k1 n1 n2
  have j2 := kp12.cell k2 n1 n2
  have zz := h1.lt.1
  have zy := h2.lt.1
  have HR : Hid (RingAt w3 r gp gk ((R.setP n p.id).setK n p) ∧ Kp w w3 gp gk) := ⟨h3, (Kp.ofBelow b1).trans (kp12.trans kp23)⟩
  clear hd h h1 h2 h3 e2 e3 kp2 kp3 kp12 kp23 b1 hp hp2 hlt n1 n2 hmp hmk
  go_enter Tryz.func76, Tryz.ntmps76
  go_wp2
  rw [← hW1]
  clear hW1
  go_region
  go_wp2
  go_region
  go_wp2
  go_end0
  exact ⟨rfl, HR.out⟩
end Go.Proofs.YtmajlldfiiokoaaGreatDoor

/- Live: who lives; slices.IndexFunc, ContainsFunc at ints; taken, needed. -/
namespace Go.Proofs.YtmajlldfiiokoaaGreatDoor
open Go.ChangeShapes Go.WideShapes Go.ChangeAt Go.RowKit Go.Deep
set_option linter.unusedVariables false

/-- Who of the first k addresses lives. -/
def Rg.liveTo (R : Rg) : Nat → List Int
  | 0 => []
  | k + 1 => if R.lives k then R.liveTo k ++ [(k : Int)] else R.liveTo k
def Rg.live (R : Rg) : List Int := R.liveTo 32
theorem liveTo_len (R : Rg) (k : Nat) : (R.liveTo k).length ≤ k := by
  induction k with
  | zero => simp [Rg.liveTo]
  | succ k ih =>
    unfold Rg.liveTo
    split
    · rw [List.length_append]; simp; omega
    · omega
theorem mem_liveTo (R : Rg) (k : Nat) (n : Int) : n ∈ R.liveTo k ↔ 0 ≤ n ∧ n < k ∧ R.lives n = true := by
  induction k with
  | zero => simp [Rg.liveTo]; omega
  | succ k ih =>
    unfold Rg.liveTo
    split
    · rename_i h
      rw [List.mem_append, ih, List.mem_singleton]
      constructor
      · rintro (⟨h1, h2, h3⟩ | rfl)
        · exact ⟨h1, by omega, h3⟩
        · exact ⟨by omega, by omega, h⟩
      · rintro ⟨h1, h2, h3⟩
        by_cases e : n = k
        · exact .inr e
        · exact .inl ⟨h1, by omega, h3⟩
    · rename_i h
      rw [ih]
      constructor
      · rintro ⟨h1, h2, h3⟩; exact ⟨h1, by omega, h3⟩
      · rintro ⟨h1, h2, h3⟩
        refine ⟨h1, ?_, h3⟩
        by_cases e : n = k
        · rw [e] at h3; exact absurd h3 h
        · omega
theorem mem_live (R : Rg) (n : Int) : n ∈ R.live ↔ 0 ≤ n ∧ n < 32 ∧ R.lives n = true := mem_liveTo R 32 n
theorem live_i64 (R : Rg) (k : Nat) (hk : k ≤ 32) : ∀ x ∈ R.liveTo k, i64 x := fun x hx => by
  have := (mem_liveTo R k x).1 hx
  unfold i64; omega

set_option maxRecDepth 100000 in
set_option maxHeartbeats 2000000 in
theorem live_r (r gp gk : Nat) (R : Rg) (w : World) (h : RingAt w r gp gk R) :
    Calls Tryz.prog 11 #[.pointer (some ⟨r, 0, none⟩)] w fun e w' => ∃ a c, e = .returned (.slice a R.live.length c) ∧ InIn w' a R.live.length R.live ∧ (∀ x, a = some x → w.heap.size ≤ x.block) ∧ Below w.heap.size w w' := by
  obtain ⟨i0, hi, hz0, hz1, hz2⟩ := info_of Tryz.infoInt
  have H : Hid (RingAt w r gp gk R) := h
  clear h
  go_enter Tryz.func11, Tryz.ntmps11
  go_wp2
  go_loopg [5, 3] 32 (fun kx s v wr => ∃ k : Nat, s = .int .i64 k ∧ k ≤ 32 ∧ kx = 32 - k ∧ Hid (Below w.heap.size w wr) ∧ Hid (wr.ownsRow w.heap.size 3 1 v (R.liveTo k).length ((R.liveTo k).map cellI)))
  case atStart => exact ⟨0, rfl, Nat.zero_le _, rfl, (Below.refl _ _ : Below w.heap.size w w), World.ownsRow_nil w w.heap.size 3 1⟩
  case round =>
    obtain ⟨k, rfl, hk, rfl, HB, HO⟩ := hrel
    by_cases hlt : k < 32
    · have hl := liveTo_len R k
      cases hq : R.lives k
      · have HQ : Hid _ := hq
        have E : Hid (R.liveTo (k + 1) = R.liveTo k) := by show R.liveTo (k + 1) = R.liveTo k; simp [Rg.liveTo, hq]
        clear hq
        go_wp2_with (go_at_call 15; refine (lives_r _ _ _ _ _ _ (H.out.below HB.out)).mono ?_; rintro e w' ⟨rfl, hb⟩; rw [HQ.out])
        go_roundg (32 - (k + 1))
        case measure => omega
        case rel => exact ⟨k + 1, by go_num, by omega, rfl, HB.out.trans (hb.mono HB.out.size), by rw [E.out]; exact HO.out.kept (row := none) ⟨hb.os, hb.tape, hb.output, hb.size, fun b hb1 _ => hb.block b hb1⟩ (by cases HH : Value.ownBlock _ <;> simp)⟩
      · have HQ : Hid _ := hq
        have E : Hid (R.liveTo (k + 1) = R.liveTo k ++ [(k : Int)]) := by show R.liveTo (k + 1) = _; simp [Rg.liveTo, hq]
        clear hq
        go_wp2_with fail
        refine (lives_r _ _ _ _ _ _ (H.out.below HB.out)).mono ?_
        rintro e w2 ⟨rfl, hb⟩
        rw [HQ.out]
        have HO2 : Hid ((w2.alloc (.cells #[.int .i64 k] 3)).ownsRow w.heap.size 3 1 u3 (R.liveTo k).length ((R.liveTo k).map cellI)) := (HO.out.kept (row := none) (w' := w2) ⟨hb.os, hb.tape, hb.output, hb.size, fun b hb1 _ => hb.block b hb1⟩ (by cases HH : Value.ownBlock _ <;> simp)).alloc (.cells #[.int .i64 k] 3)
        have HS : Hid (Src Tryz.prog 1 24 (.slice (some ⟨w2.heap.size, 0, none⟩) 1 1) 1 [cellI k] (w2.alloc (.cells #[.int .i64 k] 3))) := Src.ofSlice _ Tryz.underlying24 _ _ _ _ rfl (World.news_of_block (cs := #[.int .i64 k]) (t := 3) (fr := (0, 0)) (heap_alloc_new w2 _)) (by simp [cellI, Value.oneCell'])
        have B2 : Hid (Below w.heap.size w w2) := HB.out.trans (hb.mono HB.out.size)
        clear hb
        go_wp2_with (at_builtin; refine wpList_own_append _ rfl _ _ 24 24 rfl w.heap.size 3 i0 _ 8 Tryz.underlying24 hi hz0 hz1 hz2 rfl _ _ _ rfl HO2.out _ 1 [cellI k] rfl HS.out ?c3 ?c4 ?c5 ?_)
        case c3 => unfold maxLen; omega
        case c4 => omega
        case c5 => have := B2.out.size; simp; omega
        intro v' w3 ha
        have HA : Hid _ := ha
        clear ha
        go_wp2
        go_roundg (32 - (k + 1))
        case measure => omega
        case rel =>
          refine ⟨k + 1, by go_num, by omega, rfl, ?_, ?_⟩
          · have hg := HA.out.grown
            have b3 : Below w.heap.size w (w2.alloc (.cells #[.int .i64 k] 3)) := B2.out.trans ((below_one _ _).mono B2.out.size)
            exact b3.trans ⟨hg.os, hg.tape, hg.output, hg.size, fun b hb1 => hg.block b (by have := b3.size; omega) (fun e => by have := (World.ownsRow.lt HO2.out b e.symm).1; omega)⟩
          · have hr := HA.out.row
            rw [E.out]
            refine (show w3.ownsRow w.heap.size 3 1 v' (R.liveTo k ++ [(k : Int)]).length ((R.liveTo k ++ [(k : Int)]).map cellI) from ?_)
            simpa using hr
    · obtain rfl : k = 32 := by omega
      obtain ⟨a, c, hv⟩ : ∃ a c, u3 = .slice a (R.liveTo 32).length c := by
        rcases HO.out.2 with ⟨h0, h1⟩ | ⟨g, cap, cur, hv, _⟩
        · exact ⟨none, 0, by rw [h0, h1]⟩
        · exact ⟨_, _, hv⟩
      subst hv
      go_wp2
      go_ret
      have hl := liveTo_len R 32
      exact ⟨a, c, rfl, in_of_own HO.out (live_i64 R 32 (by omega)) (by show (R.liveTo 32).length ≤ _; omega), own_new HO.out, HB.out⟩

/-- IndexFunc and ContainsFunc, of a closure that only makes memory. -/
def anyF (p : Int → Bool) (l : List Int) : Bool := l.any p
set_option maxHeartbeats 1000000 in
theorem index_f (f : Nat) (cb : Array Value) (a : Option Addr) (len cap : Nat) (l : List Int) (p : Int → Bool) (w : World) (eg : ∀ args w, (callFunc f args).run Tryz.prog w = .ok (.enter f args) w) (hl : InIn w a len l)
    (hf : ∀ (W : World) (n : Int), n ∈ l → Below w.heap.size w W → Calls Tryz.prog f (#[.int .i64 n] ++ cb) W fun e w' => e = .returned (.bool (p n)) ∧ Below W.heap.size W w') :
    Calls Tryz.prog 117 #[.slice a len cap, .func (.func f) #[] cb] w fun e w' => (∃ r : Int, e = .returned (.int .i64 r) ∧ i64 r ∧ (0 ≤ r ↔ anyF p l = true)) ∧ Below w.heap.size w w' := by
  have HF : Hid _ := hf
  have HL : Hid (InIn w a len l) := hl
  have HN : Hid (l.length = len) := hl.1
  have hm := hl.2.1
  clear hf hl
  go_enter Tryz.func117, Tryz.ntmps117
  go_wp2
  go_loopg [8] len (fun kx s8 wr => ∃ k : Nat, s8 = .int .i64 k ∧ k ≤ len ∧ kx = len - k ∧ Hid (Below w.heap.size w wr) ∧ Hid (∀ i, i < k → p (l.getD i 0) = false))
  case atStart => exact ⟨0, rfl, Nat.zero_le _, rfl, (Below.refl _ _ : Below w.heap.size w w), (fun i hi => absurd hi (Nat.not_lt_zero _) : ∀ i, i < 0 → p (l.getD i 0) = false)⟩
  case round =>
    obtain ⟨k, rfl, hk, rfl, HB, I⟩ := hrel
    by_cases hlt : k < len
    · obtain ⟨b, o, rfl, hb, hx, c0⟩ := (HL.out.below (Nat.le_refl _) HB.out).one (v := Value.int .i64) (fun _ => rfl) (i := k) hlt
      have hmem : l.getD k 0 ∈ l := by
        have e : l.getD k 0 = l[k]'(by rw [HN.out]; exact hlt) := by simp [List.getD, HN.out, hlt]
        rw [e]; exact List.getElem_mem _
      have hc := HF.out wr _ hmem HB.out
      cases hq : p (l.getD k 0)
      · have I' : Hid (∀ i, i < k + 1 → p (l.getD i 0) = false) := fun i hi => by
          by_cases e : i = k
          · rw [e]; exact hq
          · exact I.out i (by omega)
        rw [hq] at hc
        clear hmem hx hq I
        generalize l.getD k 0 = x at c0 hc
        go_wp2_with fail
        refine Calls.mono hc ?_
        rintro e w' ⟨rfl, hbw⟩
        have HB2 : Hid (Below w.heap.size w w') := HB.out.trans (hbw.mono HB.out.size)
        clear hc hbw c0
        go_wp2
        go_roundg (len - (k + 1))
        case measure => omega
        case rel => exact ⟨k + 1, by go_num, by omega, rfl, HB2, I'⟩
      · have HA : Hid (anyF p l = true) := List.any_eq_true.2 ⟨_, hmem, hq⟩
        rw [hq] at hc
        clear hmem hx hq I
        generalize l.getD k 0 = x at c0 hc
        go_wp2_with fail
        refine Calls.mono hc ?_
        rintro e w' ⟨rfl, hbw⟩
        have HB2 : Hid (Below w.heap.size w w') := HB.out.trans (hbw.mono HB.out.size)
        clear hc hbw c0
        go_wp2
        go_ret
        exact ⟨⟨_, rfl, by unfold i64; omega, ⟨fun _ => HA.out, fun _ => by omega⟩⟩, HB2.out⟩
    · have HA : Hid (anyF p l = false) := by
        show l.any p = false
        rw [List.any_eq_false]
        intro x hx
        obtain ⟨j, hj, rfl⟩ := List.getElem_of_mem hx
        have := I.out j (by have := HN.out; omega)
        simpa [List.getD, hj] using this
      go_wp2
      go_ret
      exact ⟨⟨_, rfl, by unfold i64; omega, ⟨fun h => by omega, fun h => by rw [HA.out] at h; cases h⟩⟩, HB.out⟩

theorem contains_f (f : Nat) (cb : Array Value) (a : Option Addr) (len cap : Nat) (l : List Int) (p : Int → Bool) (w : World) (eg : ∀ args w, (callFunc f args).run Tryz.prog w = .ok (.enter f args) w) (hl : InIn w a len l)
    (hf : ∀ (W : World) (n : Int), n ∈ l → Below w.heap.size w W → Calls Tryz.prog f (#[.int .i64 n] ++ cb) W fun e w' => e = .returned (.bool (p n)) ∧ Below W.heap.size W w') :
    Calls Tryz.prog 123 #[.slice a len cap, .func (.func f) #[] cb] w fun e w' => e = .returned (.bool (anyF p l)) ∧ Below w.heap.size w w' := by
  have HC : Hid _ := index_f f cb a len cap l p w eg hl hf
  clear hl hf eg
  go_enter Tryz.func123, Tryz.ntmps123
  go_wp2_with fail
  refine Calls.mono HC.out ?_
  rintro e w' ⟨⟨r, rfl, hr, hi⟩, hb⟩
  have HI : Hid (0 ≤ r ↔ anyF p l = true) := hi
  have HB : Hid (Below w.heap.size w w') := hb
  clear hi hb HC hr
  go_wp2
  go_ret
  refine ⟨ret_b ?_, HB.out⟩
  rw [Bool.eq_iff_iff]
  simpa using HI.out
end Go.Proofs.YtmajlldfiiokoaaGreatDoor

/- taken, needed, ahead. -/
namespace Go.Proofs.YtmajlldfiiokoaaGreatDoor
open Go.ChangeShapes Go.WideShapes Go.ChangeAt Go.RowKit Go.Deep
set_option linter.unusedVariables false

theorem enter_taken (args : Array Value) (w : World) : (callFunc 124 args).run Tryz.prog w = .ok (.enter 124 args) w := by kernel_rfl
theorem enter_needed (args : Array Value) (w : World) : (callFunc 127 args).run Tryz.prog w = .ok (.enter 127 args) w := by kernel_rfl

def Rg.taken (R : Rg) (id : Int) : Bool := anyF (fun n => R.idOf n == id) R.live
/-- Is a member the only one behind another one? -/
def Rg.lone (R : Rg) (n m : Int) : Bool := m != n && headF (fun x => x != -1 && (x != n && R.lives x)) (R.know m).succ == -1
def Rg.needed (R : Rg) (n : Int) : Bool := anyF (fun m => R.lone n m) R.live

set_option maxHeartbeats 1000000 in
theorem taken1_r (r gp gk b c : Nat) (R : Rg) (id n : Int) (w : World) (h : RingAt w r gp gk R) (hb : w.cell? ⟨b, 0, none⟩ = some (.pointer (some ⟨r, 0, none⟩))) (hc : w.cell? ⟨c, 0, none⟩ = some (.int .u64 id)) :
    Calls Tryz.prog 124 (#[.int .i64 n] ++ #[.pointer (some ⟨b, 0, none⟩), .pointer (some ⟨c, 0, none⟩)]) w fun e w' => e = .returned (.bool (R.idOf n == id)) ∧ Below w.heap.size w w' := by
  have H : Hid (RingAt w r gp gk R) := h
  clear h
  simp only [List.append_toArray, List.cons_append, List.nil_append]
  go_enter Tryz.func124, Tryz.ntmps124
  go_wp2_with (go_quiet ((go_at_call 54; exact Calls.quiet_of_same (id_r _ _ _ _ _ _ (H.out.below ⟨rfl, rfl, rfl, Nat.le_refl _, fun _ _ => rfl⟩)))))
  go_ret
  exact ⟨rfl, ⟨rfl, rfl, rfl, Nat.le_refl _, fun _ _ => rfl⟩⟩

set_option maxHeartbeats 1000000 in
theorem taken_r (r gp gk : Nat) (R : Rg) (id : Int) (w : World) (h : RingAt w r gp gk R) :
    Calls Tryz.prog 74 #[.pointer (some ⟨r, 0, none⟩), .int .u64 id] w fun e w' => e = .returned (.bool (R.taken id)) ∧ Below w.heap.size w w' := by
  obtain ⟨W1, hW1⟩ : ∃ W1, W1 = (w.alloc (.cells #[.pointer (some ⟨r, 0, none⟩)] 25)).alloc (.cells #[.int .u64 id] 59) := ⟨_, rfl⟩
  have b1 : Hid (Below w.heap.size w W1) := by rw [hW1]; exact (below_one _ _).trans ((below_one _ _).mono (by simp))
  have k0 : W1.cell? ⟨w.heap.size, 0, none⟩ = some (.pointer (some ⟨r, 0, none⟩)) := by rw [hW1]; simp
  have k1 : W1.cell? ⟨w.heap.size + 1, 0, none⟩ = some (.int .u64 id) := by rw [hW1]; simp
  have H1 : Hid (RingAt W1 r gp gk R ∧ W1.cell? ⟨w.heap.size, 0, none⟩ = some (.pointer (some ⟨r, 0, none⟩)) ∧ W1.cell? ⟨w.heap.size + 1, 0, none⟩ = some (.int .u64 id)) := ⟨h.below b1.out, k0, k1⟩
  clear h k0 k1
  go_enter Tryz.func74, Tryz.ntmps74
  go_wp2_with fail
  rw [← hW1]
  clear hW1
  refine (live_r r gp gk R _ H1.out.1).mono ?_
  rintro e w2 ⟨a, c, rfl, hL, _, hb⟩
  have H2 : Hid (Below W1.heap.size W1 w2 ∧ InIn w2 a R.live.length R.live) := ⟨hb, hL⟩
  clear hb hL
  go_wp2_with fail
  refine (contains_f 124 #[.pointer (some ⟨w.heap.size, 0, none⟩), .pointer (some ⟨w.heap.size + 1, 0, none⟩)] a _ c R.live (fun n => R.idOf n == id) w2 enter_taken H2.out.2 (fun W n _ hW => ?_)).mono ?_
  · have hb2 : Below W1.heap.size W1 W := H2.out.1.trans (hW.mono H2.out.1.size)
    exact taken1_r r gp gk _ _ R id n W (H1.out.1.below hb2) (cell_grown H1.out.2.1 hb2) (cell_grown H1.out.2.2 hb2)
  rintro e w3 ⟨rfl, hb⟩
  go_wp2
  go_ret
  exact ⟨rfl, b1.out.trans ((H2.out.1.trans (hb.mono H2.out.1.size)).mono b1.out.size)⟩

/-- A look-up of a member, in every world that has grown out of this one. -/
theorem RingAt.askedAll {w : World} {r gp gk : Nat} {R : Rg} (h : RingAt w r gp gk R) (n : Int) :
    ∃ a len cap, PeIn w (R.know n).id (R.know n).pred a len cap (R.know n).succ ∧ ∀ w', Below w.heap.size w w' →
      (Instr.lookup 109 (.map (some gk)) (.int .i64 n) false).run Tryz.prog w' = .ok (.agg #[.int .u64 (R.know n).id, .int .i64 (R.know n).pred, .slice a len cap]) w' := by
  obtain ⟨mk, hk, hk'⟩ := h.known
  have q := hk' n
  cases hn : R.kn n with
  | none =>
    rw [hn] at q
    cases hl : look mk n with
    | some v => rw [hl] at q; exact q.elim
    | none =>
      refine ⟨none, 0, 0, ?_, fun w' hb => ?_⟩ <;> simp only [Rg.know, hn, Option.getD_none, pe0]
      · exact pe0_in w
      · exact (run_look_none (hk.of_block (hb.block gk hk.lt)) Tryz.underlying109 Tryz.underlying3 (zero_pe w') hl).2
  | some p =>
    rw [hn] at q
    cases hl : look mk n with
    | none => rw [hl] at q; exact q.elim
    | some v =>
      rw [hl] at q
      obtain ⟨a, len, cap, rfl, hp, _⟩ := q
      refine ⟨a, len, cap, ?_, fun w' hb => ?_⟩ <;> simp only [Rg.know, hn, Option.getD_some]
      · exact hp
      · exact (run_look_some (hk.of_block (hb.block gk hk.lt)) Tryz.underlying109 Tryz.underlying3 hl).2

set_option maxHeartbeats 1000000 in
theorem needed1_r (r gp gk b c d : Nat) (R : Rg) (n m : Int) (w : World) (h : RingAt w r gp gk R) (hb : w.cell? ⟨b, 0, none⟩ = some (.int .i64 n)) (hc : w.cell? ⟨c, 0, none⟩ = some (.pointer (some ⟨r, 0, none⟩))) (hd0 : w.cell? ⟨d, 0, none⟩ = some (.pointer (some ⟨r, 0, none⟩))) (hd1 : w.cell? ⟨d, 1, none⟩ = some (.int .i64 n)) :
    Calls Tryz.prog 127 (#[.int .i64 m] ++ #[.pointer (some ⟨b, 0, none⟩), .pointer (some ⟨c, 0, none⟩), .pointer (some ⟨d, 0, none⟩)]) w fun e w' => e = .returned (.bool (R.lone n m)) ∧ Below w.heap.size w w' := by
  have H : Hid (RingAt w r gp gk R) := h
  obtain ⟨a, len, cap, hp, hlook⟩ := h.askedAll m
  have HP : Hid (PeIn w (R.know m).id (R.know m).pred a len cap (R.know m).succ) := hp
  have c1 := h.c1
  have z := h.lt.1
  obtain ⟨ι, F, _, hF0, hFb, hFc⟩ := grown_fam w
  have F0 : ∀ i, (F i).cell? ⟨b, 0, none⟩ = some (.int .i64 n) := fun i => cell_grown hb (hFb i)
  have F1 : ∀ i, (F i).cell? ⟨c, 0, none⟩ = some (.pointer (some ⟨r, 0, none⟩)) := fun i => cell_grown hc (hFb i)
  have F2 : ∀ i, (F i).cell? ⟨d, 0, none⟩ = some (.pointer (some ⟨r, 0, none⟩)) := fun i => cell_grown hd0 (hFb i)
  have F3 : ∀ i, (F i).cell? ⟨d, 1, none⟩ = some (.int .i64 n) := fun i => cell_grown hd1 (hFb i)
  have F4 : ∀ i, (F i).cell? ⟨r, 1, none⟩ = some (.map (some gk)) := fun i => cell_grown c1 (hFb i)
  have F5 : ∀ i, (Instr.lookup 109 (.map (some gk)) (.int .i64 m) false).run Tryz.prog (F i) = .ok (.agg #[.int .u64 (R.know m).id, .int .i64 (R.know m).pred, .slice a len cap]) (F i) := fun i => hlook _ (hFb i)
  have HF : Hid ((∃ i, { w with drawn := w.drawn + 1 } = F i) ∧ (∀ i, Below w.heap.size w (F i)) ∧ (∀ i W, Below w.heap.size (F i) W → ∃ j, W = F j)) := ⟨hF0, hFb, hFc⟩
  clear h hp hlook hF0 hFb hFc hb hc hd0 hd1 c1
  simp only [List.append_toArray, List.cons_append, List.nil_append]
  by_cases q : m = n
  · subst q
    have e : (m != m) = false := by simp
    have E : Hid (R.lone m m = false) := (by simp [Rg.lone] : R.lone m m = false)
    go_enter Tryz.func127, Tryz.ntmps127
    go_wp2_with fail
    refine wp_region_fam F HF.out.1 (by kernel_rfl) (by kernel_rfl) ?_
    repeat (go_big_quiet_step (fail))
    refine wpQuiet_nil ?_
    rintro _ ⟨i, rfl⟩
    go_wp2
    go_ret
    exact ⟨ret_b E.out.symm, HF.out.2.1 i⟩
  · have e : (m != n) = true := by simpa using q
    obtain ⟨hd, hhd⟩ : ∃ hd, headF (fun x => x != -1 && (x != n && R.lives x)) (R.know m).succ = hd := ⟨_, rfl⟩
    have HH : Hid _ := hhd
    have E : Hid (R.lone n m = (hd == -1)) := (by simp [Rg.lone, e, hhd] : R.lone n m = (hd == -1))
    clear hhd
    go_enter Tryz.func127, Tryz.ntmps127
    go_wp2_with fail
    refine wp_region_fam F HF.out.1 (by kernel_rfl) (by kernel_rfl) ?_
    repeat (go_big_quiet_step (first
      | (go_at_call 91; refine (head_w r gp gk R n _ _ a len cap (R.know m).succ _ (H.out.below (HF.out.2.1 _)) (HP.out.row.below (Nat.le_refl _) (HF.out.2.1 _))).mono ?_; rintro e' w' ⟨hs, hb⟩; exact ⟨by rw [hs, HH.out], HF.out.2.2 _ _ (hb.mono (HF.out.2.1 _).size)⟩)))
    refine wpQuiet_nil ?_
    rintro _ ⟨i, rfl⟩
    go_wp2
    go_ret
    exact ⟨ret_b (by rw [E.out]), HF.out.2.1 i⟩

set_option maxHeartbeats 1000000 in
theorem needed_r (r gp gk : Nat) (R : Rg) (n : Int) (w : World) (h : RingAt w r gp gk R) :
    Calls Tryz.prog 81 #[.pointer (some ⟨r, 0, none⟩), .int .i64 n] w fun e w' => e = .returned (.bool (R.needed n)) ∧ Below w.heap.size w w' := by
  obtain ⟨W1, hW1⟩ : ∃ W1, W1 = ((w.alloc (.cells #[.pointer (some ⟨r, 0, none⟩)] 25)).alloc (.cells #[.int .i64 n] 3)).alloc (.cells #[.pointer (some ⟨r, 0, none⟩), .int .i64 n] 198) := ⟨_, rfl⟩
  have b1 : Hid (Below w.heap.size w W1) := by rw [hW1]; exact ((below_one _ _).trans ((below_one _ _).mono (by simp))).trans ((below_one _ _).mono (by simp; omega))
  have k0 : W1.heap[w.heap.size]? = some (.cells #[.pointer (some ⟨r, 0, none⟩)] 25 (0, 0)) := by
    rw [hW1, Below.heap_alloc _ _ _ (by simp; omega), Below.heap_alloc _ _ _ (by simp)]; exact heap_alloc_new w _
  have k1 : W1.heap[w.heap.size + 1]? = some (.cells #[.int .i64 n] 3 (0, 0)) := by
    rw [hW1, Below.heap_alloc _ _ _ (by simp)]; simpa using heap_alloc_new (w.alloc (.cells #[.pointer (some ⟨r, 0, none⟩)] 25)) (.cells #[.int .i64 n] 3)
  have k2 : W1.heap[w.heap.size + 2]? = some (.cells #[.pointer (some ⟨r, 0, none⟩), .int .i64 n] 198 (0, 0)) := by
    rw [hW1]; simpa using heap_alloc_new ((w.alloc (.cells #[.pointer (some ⟨r, 0, none⟩)] 25)).alloc (.cells #[.int .i64 n] 3)) (.cells #[.pointer (some ⟨r, 0, none⟩), .int .i64 n] 198)
  have H1 : Hid (RingAt W1 r gp gk R ∧ W1.cell? ⟨w.heap.size, 0, none⟩ = some (.pointer (some ⟨r, 0, none⟩)) ∧ W1.cell? ⟨w.heap.size + 1, 0, none⟩ = some (.int .i64 n) ∧ W1.cell? ⟨w.heap.size + 2, 0, none⟩ = some (.pointer (some ⟨r, 0, none⟩)) ∧ W1.cell? ⟨w.heap.size + 2, 1, none⟩ = some (.int .i64 n)) :=
    ⟨h.below b1.out, by simp [World.cell?, k0], by simp [World.cell?, k1], by simp [World.cell?, k2], by simp [World.cell?, k2]⟩
  have x0 := H1.out.2.1
  have zz : w.heap.size < W1.heap.size := by rw [hW1]; simp; omega
  clear h k0 k1 k2
  go_enter Tryz.func81, Tryz.ntmps81
  go_upto_region 2 with fail
  rw [← hW1]
  clear hW1
  go_wp2_with fail
  refine (live_r r gp gk R _ H1.out.1).mono ?_
  rintro e w2 ⟨a, c, rfl, hL, _, hb⟩
  have H2 : Hid (Below W1.heap.size W1 w2 ∧ InIn w2 a R.live.length R.live) := ⟨hb, hL⟩
  clear hb hL x0
  go_wp2_with fail
  refine (contains_f 127 #[.pointer (some ⟨w.heap.size + 1, 0, none⟩), .pointer (some ⟨w.heap.size, 0, none⟩), .pointer (some ⟨w.heap.size + 2, 0, none⟩)] a _ c R.live (fun m => R.lone n m) w2 enter_needed H2.out.2 (fun W m _ hW => ?_)).mono ?_
  · have hb2 : Below W1.heap.size W1 W := H2.out.1.trans (hW.mono H2.out.1.size)
    exact needed1_r r gp gk _ _ _ R n m W (H1.out.1.below hb2) (cell_grown H1.out.2.2.1 hb2) (cell_grown H1.out.2.1 hb2) (cell_grown H1.out.2.2.2.1 hb2) (cell_grown H1.out.2.2.2.2 hb2)
  rintro e w3 ⟨rfl, hb⟩
  go_wp2
  go_ret
  exact ⟨rfl, b1.out.trans ((H2.out.1.trans (hb.mono H2.out.1.size)).mono b1.out.size)⟩

/-- The first one, head by head, that a place comes next behind. -/
def Rg.head (R : Rg) (n : Int) : Int := headF R.lv (R.know n).succ
def Rg.aheadF (R : Rg) (id : Int) : Nat → Int → Int
  | 0, _ => -1
  | k + 1, x => if withinB id (R.idOf x) (R.idOf (R.head x)) then x else R.aheadF id k (R.head x)
def Rg.ahead (R : Rg) (id frm : Int) : Int := R.aheadF id 33 frm

set_option maxRecDepth 100000 in
set_option maxHeartbeats 2000000 in
theorem ahead_r (r gp gk : Nat) (R : Rg) (id frm : Int) (w : World) (h : RingAt w r gp gk R) :
    Calls Tryz.prog 75 #[.pointer (some ⟨r, 0, none⟩), .int .u64 id, .int .i64 frm] w fun e w' => e = .returned (.int .i64 (R.ahead id frm)) ∧ Below w.heap.size w w' := by
  have H : Hid (RingAt w r gp gk R) := h
  clear h
  go_enter Tryz.func75, Tryz.ntmps75
  go_wp2
  go_loopg [10, 7] 33 (fun kx s s7 wr => ∃ (k : Nat) (x : Int), s = .int .i64 k ∧ s7 = .int .i64 x ∧ k ≤ 33 ∧ kx = 33 - k ∧ Hid (Below w.heap.size w wr) ∧ Hid (R.aheadF id (33 - k) x = R.ahead id frm))
  case atStart => exact ⟨0, frm, rfl, rfl, Nat.zero_le _, rfl, (Below.refl _ _ : Below w.heap.size w w), (rfl : R.aheadF id (33 - 0) frm = R.ahead id frm)⟩
  case round =>
    obtain ⟨k, x, rfl, rfl, hk, rfl, HB, I⟩ := hrel
    by_cases hlt : k < 33
    · have HR : Hid (RingAt wr r gp gk R) := H.out.below HB.out
      obtain ⟨a, len, cap, hp, hlook⟩ := HR.out.asked x
      have HP : Hid (PeIn wr (R.know x).id (R.know x).pred a len cap (R.know x).succ) := hp
      have c1 := HR.out.c1
      have z := HR.out.lt.1
      have ek : 33 - k = (33 - (k + 1)) + 1 := by omega
      have E : Hid (R.aheadF id (33 - k) x = if withinB id (R.idOf x) (R.idOf (R.head x)) then x else R.aheadF id (33 - (k + 1)) (R.head x)) := by rw [ek]; rfl
      clear hp ek
      obtain ⟨hd, hhd⟩ : ∃ hd, headF R.lv (R.know x).succ = hd := ⟨_, rfl⟩
      have HH : Hid _ := hhd
      have HH' : Hid (R.head x = hd) := hhd
      clear hhd
      cases hq : withinB id (R.idOf x) (R.idOf hd)
      all_goals
        have HQ : Hid _ := hq
        clear hq
        go_wp2_with fail
        refine (head_r r gp gk R _ _ a len cap (R.know x).succ _ HR.out HP.out.row).mono ?_
        rintro e w2 ⟨rfl, hb⟩
        rw [HH.out]
        have HR2 : Hid (RingAt w2 r gp gk R) := HR.out.below hb
        have HB2 : Hid (Below w.heap.size w w2) := HB.out.trans (hb.mono HB.out.size)
        clear hb
        go_wp2_with (first
          | (go_at_call 125; refine (within_any _ _ _ _).mono ?_; rintro e w3 ⟨rfl, rfl⟩; rw [HQ.out])
          | (go_at_call 54; refine (id_r _ _ _ _ _ _ HR2.out).mono ?_; rintro e w3 ⟨rfl, rfl⟩))
      · go_roundg (33 - (k + 1))
        case measure => omega
        case rel => exact ⟨k + 1, hd, by go_num, rfl, by omega, rfl, HB2.out, by rw [← I.out, E.out, HH'.out, HQ.out]; rfl⟩
      · go_ret
        exact ⟨ret_i (by rw [← I.out, E.out, HH'.out, HQ.out]; rfl), HB2.out⟩
    · obtain rfl : k = 33 := by omega
      go_wp2
      go_ret
      exact ⟨ret_i (by rw [← I.out]; rfl), HB.out⟩
end Go.Proofs.YtmajlldfiiokoaaGreatDoor

/- Join, Fail. -/
namespace Go.Proofs.YtmajlldfiiokoaaGreatDoor
open Go.ChangeShapes Go.WideShapes Go.ChangeAt Go.RowKit Go.Deep
set_option linter.unusedVariables false

/-- An error by its code; 0: none. -/
def errV (c : Int) : Value := if c = 0 then .nilIface else .iface 116 (.int .i64 c)
def Rg.joinC (R : Rg) (n id via : Int) : Int := if n < 0 ∨ 32 ≤ n then 1 else if (R.pl n).isSome then 7 else if !R.lives via then 6 else if R.taken id then 8 else if R.ahead id via = -1 then 5 else 0
def Rg.joined (R : Rg) (n id x : Int) : Rg := (R.setP n id).setK n ⟨id, x, (R.know x).succ⟩
def Rg.join (R : Rg) (n id via : Int) : Rg := if R.joinC n id via = 0 then R.joined n id (R.ahead id via) else R
def Rg.failC (R : Rg) (n : Int) : Int := if !R.lives n then 6 else if n < 4 ∨ R.needed n = true then 5 else 0
def Rg.fail (R : Rg) (n : Int) : Rg := if R.failC n = 0 then R.delK n else R

theorem RingAt.succ_i64 {w : World} {r gp gk : Nat} {R : Rg} (h : RingAt w r gp gk R) (n : Int) : ∀ x ∈ (R.know n).succ, i64 x := by
  obtain ⟨a, len, cap, hp, _⟩ := h.asked n
  exact ints_ok hp.row
theorem headF_i64 {L : Int → Bool} {l : List Int} (h : ∀ x ∈ l, i64 x) : i64 (headF L l) := by
  induction l with
  | nil => simp [headF, i64]
  | cons a l ih =>
    cases q : L a
    · simp only [headF, q]; exact ih (fun x hx => h x (List.mem_cons_of_mem _ hx))
    · simp only [headF, q]; exact h a (List.mem_cons_self ..)
theorem RingAt.ahead_i64 {w : World} {r gp gk : Nat} {R : Rg} (h : RingAt w r gp gk R) (id via : Int) (hv : i64 via) : i64 (R.ahead id via) := by
  unfold Rg.ahead
  generalize 33 = k
  induction k generalizing via with
  | zero => simp [Rg.aheadF, i64]
  | succ k ih =>
    unfold Rg.aheadF
    split
    · exact hv
    · exact ih _ (headF_i64 (h.succ_i64 via))

theorem field_succ (v0 v1 : Value) (a : Option Addr) (l c : Nat) (w : World) : (Instr.field 80 (.agg #[v0, v1, .slice a l c]) 2).run Tryz.prog w = .ok (.slice a l c) w := by kernel_rfl

set_option maxRecDepth 100000 in
set_option maxHeartbeats 2000000 in
theorem join_r (r gp gk : Nat) (R : Rg) (n id via : Int) (w : World) (h : RingAt w r gp gk R) (hid : u64 id) (hv : i64 via) :
    Calls Tryz.prog 32 #[.pointer (some ⟨r, 0, none⟩), .int .i64 n, .int .u64 id, .int .i64 via] w fun e w' => e = .returned (errV (R.joinC n id via)) ∧ RingAt w' r gp gk (R.join n id via) ∧ Kp w w' gp gk := by
  have H : Hid (RingAt w r gp gk R) := h
  have HI : Hid (u64 id ∧ i64 (R.ahead id via)) := ⟨hid, h.ahead_i64 id via hv⟩
  have c0 := h.c0
  have c1 := h.c1
  have z := h.lt.1
  have hw := h.was n
  have fs := fun v0 v1 a l c w => field_succ v0 v1 a l c w
  clear h hid hv
  obtain ⟨C, hC⟩ : ∃ C, R.joinC n id via = C := ⟨_, rfl⟩
  have HC : Hid (R.joinC n id via = C) := hC
  have HJ : Hid (C ≠ 0 → R.join n id via = R) := fun hc => by unfold Rg.join; rw [if_neg (by rw [HC.out]; exact hc)]
  rw [hC]
  unfold Rg.joinC at hC
  by_cases q0 : n < 0 ∨ 32 ≤ n
  · rw [if_pos q0] at hC
    subst hC
    rw [HJ.out (by omega)]
    rcases q0 with q0 | q0
    · go_enter Tryz.func32, Tryz.ntmps32
      go_wp2
      go_ret
      exact ⟨rfl, H.out, Kp.refl _ _ _⟩
    · have q1 : ¬ n < 0 := by omega
      go_enter Tryz.func32, Tryz.ntmps32
      go_wp2
      go_ret
      exact ⟨rfl, H.out, Kp.refl _ _ _⟩
  rw [if_neg q0] at hC
  have q1 : 0 ≤ n := by omega
  have q2 : n < 32 := by omega
  clear q0
  by_cases hp : (R.pl n).isSome = true
  · rw [hp] at hw
    rw [hp, if_pos rfl] at hC
    subst hC
    rw [HJ.out (by omega)]
    clear hp
    go_enter Tryz.func32, Tryz.ntmps32
    go_wp2
    go_ret
    exact ⟨rfl, H.out, Kp.refl _ _ _⟩
  replace hp : (R.pl n).isSome = false := by simpa using hp
  rw [hp] at hw
  rw [hp, if_neg (by simp)] at hC
  clear hp
  cases hl : R.lives via
  · rw [hl, if_pos (by simp)] at hC
    subst hC
    rw [HJ.out (by omega)]
    have HQ : Hid _ := hl
    clear hl
    go_enter Tryz.func32, Tryz.ntmps32
    go_wp2_with (go_at_call 15; refine (lives_r _ _ _ _ _ _ H.out).mono ?_; rintro e w' ⟨rfl, hb⟩; rw [HQ.out])
    go_ret
    exact ⟨rfl, H.out.below hb, Kp.ofBelow hb⟩
  rw [hl, if_neg (by simp)] at hC
  have HQ : Hid _ := hl
  clear hl
  by_cases ht : R.taken id = true
  · rw [ht, if_pos rfl] at hC
    subst hC
    rw [HJ.out (by omega)]
    have HT : Hid _ := ht
    clear ht
    go_enter Tryz.func32, Tryz.ntmps32
    go_wp2_with (first
      | (go_at_call 15; refine (lives_r _ _ _ _ _ _ H.out).mono ?_; rintro e w1 ⟨rfl, hb1⟩; rw [HQ.out])
      | (go_at_call 74; refine (taken_r _ _ _ _ _ _ (H.out.below hb1)).mono ?_; rintro e w2 ⟨rfl, hb2⟩; rw [HT.out]))
    go_ret
    exact ⟨rfl, (H.out.below hb1).below hb2, (Kp.ofBelow hb1).trans (Kp.ofBelow hb2)⟩
  replace ht : R.taken id = false := by simpa using ht
  rw [ht, if_neg (by simp)] at hC
  have HT : Hid _ := ht
  clear ht
  obtain ⟨x, hx⟩ : ∃ x, R.ahead id via = x := ⟨_, rfl⟩
  have HX : Hid _ := hx
  rw [hx] at hC
  clear hx
  by_cases qx : x = -1
  · subst qx
    rw [if_pos rfl] at hC
    subst hC
    rw [HJ.out (by omega)]
    go_enter Tryz.func32, Tryz.ntmps32
    go_wp2_with (first
      | (go_at_call 15; refine (lives_r _ _ _ _ _ _ H.out).mono ?_; rintro e w1 ⟨rfl, hb1⟩; rw [HQ.out])
      | (go_at_call 74; refine (taken_r _ _ _ _ _ _ (H.out.below hb1)).mono ?_; rintro e w2 ⟨rfl, hb2⟩; rw [HT.out])
      | (go_at_call 75; refine (ahead_r _ _ _ _ _ _ _ ((H.out.below hb1).below hb2)).mono ?_; rintro e w3 ⟨rfl, hb3⟩; rw [HX.out]))
    go_ret
    exact ⟨rfl, ((H.out.below hb1).below hb2).below hb3, (Kp.ofBelow hb1).trans ((Kp.ofBelow hb2).trans (Kp.ofBelow hb3))⟩
  rw [if_neg qx] at hC
  subst hC
  have HJ2 : Hid (R.join n id via = R.joined n id x) := by
    show R.join n id via = _
    unfold Rg.join; rw [if_pos HC.out, HX.out]
  have qx1 : (x == -1) = false := by simpa using qx
  go_enter Tryz.func32, Tryz.ntmps32
  go_wp2_with (first
    | (go_at_call 15; refine (lives_r _ _ _ _ _ _ H.out).mono ?_; rintro e w1 ⟨rfl, hb1⟩; rw [HQ.out])
    | (go_at_call 74; refine (taken_r _ _ _ _ _ _ (H.out.below hb1)).mono ?_; rintro e w2 ⟨rfl, hb2⟩; rw [HT.out]))
  refine (ahead_r _ _ _ _ _ _ _ ((H.out.below hb1).below hb2)).mono ?_
  rintro e w3 ⟨rfl, hb3⟩
  rw [HX.out]
  have K3 : Hid (Kp w w3 gp gk) := (Kp.ofBelow hb1).trans ((Kp.ofBelow hb2).trans (Kp.ofBelow hb3))
  have H3 : Hid (RingAt w3 r gp gk R) := ((H.out.below hb1).below hb2).below hb3
  clear hb1 hb2 hb3 c0 c1 z hw
  obtain ⟨a, len, cap, hp, hlook⟩ := H3.out.asked x
  have HP : Hid (PeIn w3 id x a len cap (R.know x).succ) := ⟨HI.out.1, by rw [← HX.out]; exact HI.out.2, hp.row, hp.hcap, hp.hmost, hp.hnil⟩
  have HCL : Hid (∀ x, a = some x → ¬ R.cl x.block) := H3.out.clear hlook
  have c1 := H3.out.c1
  have z := H3.out.lt.1
  clear hp
  go_wp2_with (go_at_call 76; refine (add_r r gp gk R n ⟨id, x, (R.know x).succ⟩ a len cap _ H3.out HP.out HCL.out).mono ?_; rintro e w4 ⟨rfl, h4, k4⟩)
  go_ret
  exact ⟨rfl, by rw [HJ2.out]; exact h4, K3.out.trans k4⟩

set_option maxRecDepth 100000 in
set_option maxHeartbeats 2000000 in
theorem fail_r (r gp gk : Nat) (R : Rg) (n : Int) (w : World) (h : RingAt w r gp gk R) :
    Calls Tryz.prog 37 #[.pointer (some ⟨r, 0, none⟩), .int .i64 n] w fun e w' => e = .returned (errV (R.failC n)) ∧ RingAt w' r gp gk (R.fail n) ∧ Kp w w' gp gk := by
  have H : Hid (RingAt w r gp gk R) := h
  clear h
  obtain ⟨C, hC⟩ : ∃ C, R.failC n = C := ⟨_, rfl⟩
  have HC : Hid (R.failC n = C) := hC
  have HJ : Hid (C ≠ 0 → R.fail n = R) := fun hc => by unfold Rg.fail; rw [if_neg (by rw [HC.out]; exact hc)]
  rw [hC]
  unfold Rg.failC at hC
  cases hl : R.lives n
  · rw [hl, if_pos (by simp)] at hC
    subst hC
    rw [HJ.out (by omega)]
    have HQ : Hid _ := hl
    clear hl
    go_enter Tryz.func37, Tryz.ntmps37
    go_wp2_with (go_at_call 15; refine (lives_r _ _ _ _ _ _ H.out).mono ?_; rintro e w' ⟨rfl, hb⟩; rw [HQ.out])
    go_ret
    exact ⟨rfl, H.out.below hb, Kp.ofBelow hb⟩
  rw [hl, if_neg (by simp)] at hC
  have HQ : Hid _ := hl
  clear hl
  by_cases q : n < 4
  · rw [if_pos (.inl q)] at hC
    subst hC
    rw [HJ.out (by omega)]
    go_enter Tryz.func37, Tryz.ntmps37
    go_wp2_with (go_at_call 15; refine (lives_r _ _ _ _ _ _ H.out).mono ?_; rintro e w' ⟨rfl, hb⟩; rw [HQ.out])
    go_ret
    exact ⟨rfl, H.out.below hb, Kp.ofBelow hb⟩
  by_cases hd : R.needed n = true
  · rw [if_pos (.inr hd)] at hC
    subst hC
    rw [HJ.out (by omega)]
    have HD : Hid _ := hd
    clear hd
    go_enter Tryz.func37, Tryz.ntmps37
    go_wp2_with (first
      | (go_at_call 15; refine (lives_r _ _ _ _ _ _ H.out).mono ?_; rintro e w1 ⟨rfl, hb1⟩; rw [HQ.out])
      | (go_at_call 81; refine (needed_r _ _ _ _ _ _ (H.out.below hb1)).mono ?_; rintro e w2 ⟨rfl, hb2⟩; rw [HD.out]))
    go_ret
    exact ⟨rfl, (H.out.below hb1).below hb2, (Kp.ofBelow hb1).trans (Kp.ofBelow hb2)⟩
  rw [if_neg (by rintro (h | h); exact q h; exact hd h)] at hC
  subst hC
  have HJ2 : Hid (R.fail n = R.delK n) := by
    show R.fail n = _
    unfold Rg.fail; rw [if_pos HC.out]
  replace hd : R.needed n = false := by simpa using hd
  have HD : Hid _ := hd
  clear hd
  go_enter Tryz.func37, Tryz.ntmps37
  go_wp2_with (go_at_call 15; refine (lives_r _ _ _ _ _ _ H.out).mono ?_; rintro e w1 ⟨rfl, hb1⟩; rw [HQ.out])
  refine (needed_r _ _ _ _ _ _ (H.out.below hb1)).mono ?_
  rintro e w2 ⟨rfl, hb2⟩
  rw [HD.out]
  have H2 : Hid (RingAt w2 r gp gk R ∧ Kp w w2 gp gk) := ⟨(H.out.below hb1).below hb2, (Kp.ofBelow hb1).trans (Kp.ofBelow hb2)⟩
  clear hb1 hb2
  have c1 := H2.out.1.c1
  have z := H2.out.1.lt.1
  obtain ⟨w3, e3, h3, k3⟩ := H2.out.1.del n 0 3
  have H3 : Hid (RingAt w3 r gp gk (R.delK n) ∧ Kp w w3 gp gk) := ⟨h3, H2.out.2.trans k3⟩
  clear h3 k3
  go_wp2
  go_ret
  exact ⟨rfl, by rw [HJ2.out]; exact H3.out.1, H3.out.2⟩
end Go.Proofs.YtmajlldfiiokoaaGreatDoor

/- Stabilize. -/
namespace Go.Proofs.YtmajlldfiiokoaaGreatDoor
open Go.ChangeShapes Go.WideShapes Go.ChangeAt Go.RowKit Go.Deep
set_option linter.unusedVariables false

def Rg.stabC (R : Rg) (n : Int) : Int := if R.lives n then 0 else 6
/-- Whom a member takes for the next one. -/
def Rg.next (R : Rg) (n : Int) : Int := if R.near (R.know (R.head n)).pred (R.know n).id (R.head n) then (R.know (R.head n)).pred else R.head n
def Rg.learn (R : Rg) (n s : Int) : Rg := R.setK n ⟨(R.know n).id, (R.know n).pred, s :: (R.know s).succ.take 2⟩
def Rg.tell (R : Rg) (s n : Int) : Rg := R.setK s ⟨(R.know s).id, R.rect (R.know s).id (R.know s).pred n, (R.know s).succ⟩
def Rg.stab (R : Rg) (n : Int) : Rg := if R.lives n then (R.learn n (R.next n)).tell (R.next n) n else R

theorem field_pred1 (v0 v2 : Value) (x : Int) (w : World) : (Instr.field 80 (.agg #[v0, .int .i64 x, v2]) 1).run Tryz.prog w = .ok (.int .i64 x) w := by kernel_rfl

theorem RingAt.pred_i64 {w : World} {r gp gk : Nat} {R : Rg} (h : RingAt w r gp gk R) (n : Int) : i64 (R.know n).pred := by
  obtain ⟨a, len, cap, hp, _⟩ := h.asked n
  exact hp.hpred
theorem RingAt.head_i64 {w : World} {r gp gk : Nat} {R : Rg} (h : RingAt w r gp gk R) (n : Int) : i64 (R.head n) := headF_i64 (h.succ_i64 n)
theorem rect_or (R : Rg) (id pred n : Int) : R.rect id pred n = n ∨ R.rect id pred n = pred := by
  unfold Rg.rect; split
  · exact .inl rfl
  · exact .inr rfl

set_option maxRecDepth 100000 in
set_option maxHeartbeats 4000000 in
theorem stab_r (r gp gk : Nat) (R : Rg) (n : Int) (w : World) (h : RingAt w r gp gk R) (hn : i64 n) :
    Calls Tryz.prog 46 #[.pointer (some ⟨r, 0, none⟩), .int .i64 n] w fun e w' => e = .returned (errV (R.stabC n)) ∧ RingAt w' r gp gk (R.stab n) ∧ Kp w w' gp gk := by
  have H : Hid (RingAt w r gp gk R) := h
  have HN : Hid (i64 n) := hn
  have c0 := h.c0
  have c1 := h.c1
  have z := h.lt.1
  cases hl : R.kn n with
  | none =>
    have q := (h.missed hl).1
    have E : Hid (R.stabC n = 6 ∧ R.stab n = R) := (by simp [Rg.stabC, Rg.stab, Rg.lives, hl] : R.stabC n = 6 ∧ R.stab n = R)
    clear h hn hl
    go_enter Tryz.func46, Tryz.ntmps46
    go_wp2
    go_ret
    exact ⟨by rw [E.out.1]; rfl, by rw [E.out.2]; exact H.out.below (below_one _ _), Kp.ofBelow (below_one _ _)⟩
  | some p =>
    have E : Hid (R.stabC n = 0 ∧ R.stab n = (R.learn n (R.next n)).tell (R.next n) n) := (by simp [Rg.stabC, Rg.stab, Rg.lives, hl] : R.stabC n = 0 ∧ R.stab n = (R.learn n (R.next n)).tell (R.next n) n)
    have EP : Hid (R.know n = p) := (by simp [Rg.know, hl] : R.know n = p)
    obtain ⟨a, len, cap, hp, q, _⟩ := h.found hl
    have HP : Hid (PeIn w p.id p.pred a len cap p.succ) := hp
    obtain ⟨W1, hW1⟩ : ∃ W1, W1 = w.alloc (.cells #[.int .u64 p.id, .int .i64 p.pred, .slice a len cap] 80) := ⟨_, rfl⟩
    have b1 : Hid (Below w.heap.size w W1 ∧ W1.heap.size = w.heap.size + 1) := ⟨by rw [hW1]; exact below_one _ _, by rw [hW1]; simp⟩
    have k0 : W1.heap[w.heap.size]? = some (.cells #[.int .u64 p.id, .int .i64 p.pred, .slice a len cap] 80 (0, 0)) := by rw [hW1]; exact heap_alloc_new w _
    have HK : Hid (W1.heap[w.heap.size]? = some (.cells #[.int .u64 p.id, .int .i64 p.pred, .slice a len cap] 80 (0, 0))) := k0
    have H1 : Hid (RingAt W1 r gp gk R) := h.below b1.out.1
    have fp := fun v0 v2 x w => field_pred1 v0 v2 x w
    clear h hn hl hp k0
    go_enter Tryz.func46, Tryz.ntmps46
    go_wp2_with fail
    rw [← hW1]
    clear hW1 c0 c1 z q
    refine (head_r r gp gk R _ _ a len cap p.succ _ H1.out (HP.out.row.below (Nat.le_refl _) b1.out.1)).mono ?_
    rintro e w2 ⟨rfl, hb2⟩
    obtain ⟨s0, hs0⟩ : ∃ s0, headF R.lv p.succ = s0 := ⟨_, rfl⟩
    have HS0 : Hid (R.head n = s0) := by show headF R.lv (R.know n).succ = s0; rw [EP.out]; exact hs0
    rw [hs0]
    clear hs0
    have H2 : Hid (RingAt w2 r gp gk R) := H1.out.below hb2
    have K2 : Hid (w2.heap[w.heap.size]? = some (.cells #[.int .u64 p.id, .int .i64 p.pred, .slice a len cap] 80 (0, 0))) := (hb2.block _ (by have := b1.out.2; omega)).trans HK.out
    have B2 : Hid (Below w.heap.size w w2) := b1.out.1.trans (hb2.mono b1.out.1.size)
    have z2 : w.heap.size < w2.heap.size := by have := hb2.size; have := b1.out.2; omega
    clear hb2
    obtain ⟨a2, len2, cap2, hp2, hlook2⟩ := H2.out.asked s0
    have c1 := H2.out.c1
    have z := H2.out.lt.1
    have x0 : w2.cell? ⟨w.heap.size, 0, none⟩ = some (.int .u64 p.id) := by simp [World.cell?, K2.out]
    clear hp2
    go_wp2_with fail
    refine (nearer_r r gp gk R _ _ _ _ H2.out).mono ?_
    rintro e w3 ⟨rfl, hb3⟩
    have H3 : Hid (RingAt w3 r gp gk R) := H2.out.below hb3
    have K3 : Hid (w3.heap[w.heap.size]? = some (.cells #[.int .u64 p.id, .int .i64 p.pred, .slice a len cap] 80 (0, 0))) := (hb3.block _ z2).trans K2.out
    have B3 : Hid (Below w.heap.size w w3) := B2.out.trans (hb3.mono B2.out.size)
    have z3 : w.heap.size < w3.heap.size := by have := hb3.size; omega
    clear hb3 hlook2 c1 z x0
    obtain ⟨q, hq⟩ : ∃ q, (R.know s0).pred = q := ⟨_, rfl⟩
    have HQ : Hid (i64 q ∧ i64 s0) := ⟨by rw [← hq]; exact H3.out.pred_i64 s0, by rw [← HS0.out]; exact H3.out.head_i64 n⟩
    have HNX : Hid (R.next n = if R.near q p.id s0 then q else s0) := by
      show R.next n = _
      unfold Rg.next; rw [HS0.out, hq, EP.out]
    rw [hq]
    clear hq
    cases hnr : R.near q p.id s0
    · have HX : Hid (R.next n = s0) := by rw [HNX.out, hnr]; rfl
      have HI : Hid (i64 s0) := HQ.out.2
      clear hnr HNX
      obtain ⟨a4, len4, cap4, hp4, hlook4⟩ := H3.out.asked s0
      have HP4 : Hid (PeIn w3 (R.know s0).id (R.know s0).pred a4 len4 cap4 (R.know s0).succ) := hp4
      have c1 := H3.out.c1
      have z := H3.out.lt.1
      clear hp4
      go_wp2_with fail
      refine (follow_any s0 _ _ a4 len4 cap4 (R.know s0).succ _ HI.out HP4.out.row HP4.out.hcap HP4.out.hmost HP4.out.hnil).mono ?_
      rintro e w4 ⟨a5, c5, rfl, h5, hc5, hd5, hfr, hb4⟩
      obtain ⟨m5, hm5⟩ : ∃ m5, m5 = 1 + min len4 2 := ⟨_, rfl⟩
      rw [← hm5] at h5 hc5 ⊢
      have hm5p : 1 ≤ m5 := by omega
      have HF5 : Hid (∀ x, a5 = some x → w.heap.size < x.block) := fun x hx => by have := hfr x hx; omega
      clear hfr
      have H4 : Hid (RingAt w4 r gp gk R) := H3.out.below hb4
      have K4 : Hid (w4.heap[w.heap.size]? = some (.cells #[.int .u64 p.id, .int .i64 p.pred, .slice a len cap] 80 (0, 0))) := (hb4.block _ z3).trans K3.out
      have B4 : Hid (Below w.heap.size w w4) := B3.out.trans (hb4.mono B3.out.size)
      have z4 : w.heap.size < w4.heap.size := by have := hb4.size; omega
      have HP5 : Hid (PeIn w4 p.id p.pred a5 m5 c5 (s0 :: (R.know s0).succ.take 2)) := ⟨HP.out.hid, HP.out.hpred, h5, hc5, hd5, fun e => by have h := h5; subst e; rcases h.2.2 with h0 | ⟨b, o, ha, _⟩; exact h0; cases ha⟩
      clear hb4 hlook4 c1 z h5 hc5 hd5 hm5 hm5p
      obtain ⟨W5, hW5⟩ : ∃ W5, W5 = w4.setCell ⟨w.heap.size, 2, none⟩ (.slice a5 m5 c5) := ⟨_, rfl⟩
      have k4 := K4.out
      have x0 : w4.cell? ⟨w.heap.size, 0, none⟩ = some (.int .u64 p.id) := by simp [World.cell?, k4]
      have x1 : w4.cell? ⟨w.heap.size, 1, none⟩ = some (.int .i64 p.pred) := by simp [World.cell?, k4]
      have x2 : w4.cell? ⟨w.heap.size, 2, none⟩ = some (.slice a len cap) := by simp [World.cell?, k4]
      have xf : ∀ o, w4.frozen? ⟨w.heap.size, o, none⟩ = false := fun o => by simp [World.frozen?, k4]
      have B5 : Hid (Below w.heap.size w W5) := by rw [hW5]; exact B4.out.setCell (by simp) _
      have H5 : Hid (RingAt W5 r gp gk R) := H.out.below B5.out
      have y0 : W5.cell? ⟨w.heap.size, 0, none⟩ = some (.int .u64 p.id) := by rw [hW5]; simp [go_sem, x0]
      have y1 : W5.cell? ⟨w.heap.size, 1, none⟩ = some (.int .i64 p.pred) := by rw [hW5]; simp [go_sem, x1]
      have y2 : W5.cell? ⟨w.heap.size, 2, none⟩ = some (.slice a5 m5 c5) := by rw [hW5]; simp [go_sem, x2]
      have HP6 : Hid (PeIn W5 p.id p.pred a5 m5 c5 (s0 :: (R.know s0).succ.take 2)) := by
        refine ⟨HP5.out.hid, HP5.out.hpred, ?_, HP5.out.hcap, HP5.out.hmost, HP5.out.hnil⟩
        have h := HP5.out.row
        refine ⟨h.1, h.2.1, ?_⟩
        rcases h.2.2 with h0 | ⟨b, o, ha, hlt, hc⟩
        · exact .inl h0
        · refine .inr ⟨b, o, ha, by rw [hW5]; simpa [World.setCell] using hlt, fun i hi => ⟨(hc i hi).1, fun j hj => ?_⟩⟩
          have hne : w.heap.size ≠ b := by have := HF5.out _ ha; simp at this; omega
          rw [hW5, World.cell?_of_block (Below.heap_setCell _ _ _ _ (Ne.symm hne))]
          exact (hc i hi).2 j hj
      obtain ⟨R1, hR1⟩ : ∃ R1, R1 = R.setK n ⟨p.id, p.pred, s0 :: (R.know s0).succ.take 2⟩ := ⟨_, rfl⟩
      have HR1 : Hid (R.learn n s0 = R1) := by show R.setK n ⟨(R.know n).id, (R.know n).pred, s0 :: (R.know s0).succ.take 2⟩ = R1; rw [EP.out, hR1]
      obtain ⟨w6, e6, h6, k6⟩ := (H5.out.drew (W5.drawn + 1)).putK n ⟨p.id, p.pred, s0 :: (R.know s0).succ.take 2⟩ (HP6.out.below (Nat.le_refl _) (w' := { W5 with drawn := W5.drawn + 1 }) ⟨rfl, rfl, rfl, Nat.le_refl _, fun _ _ => rfl⟩) (fun x hx hc => by have := HF5.out x hx; have := H.out.old _ hc; omega)
      have e6' : (Instr.mapUpdate 109 (.map (some gk)) (.int .i64 n) (.agg #[.int .u64 p.id, .int .i64 p.pred, .slice a5 m5 c5])).run Tryz.prog W5.drew = .ok () w6 := e6
      rw [← hR1] at h6
      have K6 : Hid (Kp w w6 gp gk) := (Kp.ofBelow B5.out).trans ((Kp.drawn W5 (W5.drawn + 1) gp gk).trans k6)
      have H6 : Hid (RingAt w6 r gp gk R1) := h6
      have c1 := H5.out.c1
      have z := H5.out.lt.1
      have z5 : w.heap.size < W5.heap.size := by rw [hW5]; simpa [World.setCell] using z4
      clear e6 h6 k6 hR1
      go_upto_region 9 with fail
      rw [← hW5]
      clear hW5 x0 x1 x2 xf k4 z4
      go_region
      clear c1 z y0 y1 y2 e6'
      have c1 := H6.out.c1
      have z := H6.out.lt.1
      obtain ⟨a7, len7, cap7, hp7, hlook7⟩ := (H6.out.drew (w6.drawn + 1)).asked s0
      have hlook7' : (Instr.lookup 109 (.map (some gk)) (.int .i64 s0) false).run Tryz.prog w6.drew = .ok (.agg #[.int .u64 (R1.know s0).id, .int .i64 (R1.know s0).pred, .slice a7 len7 cap7]) w6.drew := hlook7
      have HCL : Hid (∀ x, a7 = some x → ¬ R1.cl x.block) := (H6.out.drew (w6.drawn + 1)).clear hlook7
      have HP7 : Hid (PeIn w6.drew (R1.know s0).id (R1.know s0).pred a7 len7 cap7 (R1.know s0).succ) := hp7
      have H6d : Hid (RingAt w6.drew r gp gk R1) := H6.out.drew (w6.drawn + 1)
      obtain ⟨x, hx⟩ : ∃ x, R1.rect (R1.know s0).id (R1.know s0).pred n = x := ⟨_, rfl⟩
      have HX7 : Hid _ := hx
      have HX8 : Hid (i64 x) := by
        rw [← hx]
        rcases rect_or R1 (R1.know s0).id (R1.know s0).pred n with e | e
        · rw [e]; exact HN.out
        · rw [e]; exact hp7.hpred
      clear hx hp7 hlook7
      go_upto_region 10 with fail
      go_region_with ((go_at_call 94; refine (rectify_r r gp gk R1 _ _ _ _ _ _ _ H6d.out).mono ?_; rintro e w7 ⟨rfl, hb7⟩; rw [HX7.out]; have H7 : Hid (RingAt w7 r gp gk R1) := H6d.out.below hb7; have K7 : Hid (Kp w w7 gp gk) := K6.out.trans ((Kp.drawn w6 (w6.drawn + 1) gp gk).trans (Kp.ofBelow hb7)); obtain ⟨w8, e8, h8, k8⟩ := H7.out.putK s0 ⟨(R1.know s0).id, x, (R1.know s0).succ⟩ (a := a7) (len := len7) (cap := cap7) ⟨HP7.out.hid, HX8.out, HP7.out.row.below (Nat.le_refl _) hb7, HP7.out.hcap, HP7.out.hmost, HP7.out.hnil⟩ HCL.out; have c17 := H7.out.c1; have z7 := H7.out.lt.1))
      go_wp2
      all_goals
        go_ret
        refine ⟨by rw [E.out.1]; rfl, ?_, K7.out.trans k8⟩
        rw [E.out.2, HX.out, HR1.out]
        show RingAt w8 r gp gk (R1.setK s0 ⟨(R1.know s0).id, R1.rect (R1.know s0).id (R1.know s0).pred n, (R1.know s0).succ⟩)
        rw [HX7.out]
        exact h8
    · have HX : Hid (R.next n = q) := by rw [HNX.out, hnr]; rfl
      have HI : Hid (i64 q) := HQ.out.1
      clear hnr HNX
      obtain ⟨a4, len4, cap4, hp4, hlook4⟩ := H3.out.asked q
      have HP4 : Hid (PeIn w3 (R.know q).id (R.know q).pred a4 len4 cap4 (R.know q).succ) := hp4
      have c1 := H3.out.c1
      have z := H3.out.lt.1
      clear hp4
      go_wp2_with fail
      refine (follow_any q _ _ a4 len4 cap4 (R.know q).succ _ HI.out HP4.out.row HP4.out.hcap HP4.out.hmost HP4.out.hnil).mono ?_
      rintro e w4 ⟨a5, c5, rfl, h5, hc5, hd5, hfr, hb4⟩
      obtain ⟨m5, hm5⟩ : ∃ m5, m5 = 1 + min len4 2 := ⟨_, rfl⟩
      rw [← hm5] at h5 hc5 ⊢
      have hm5p : 1 ≤ m5 := by omega
      have HF5 : Hid (∀ x, a5 = some x → w.heap.size < x.block) := fun x hx => by have := hfr x hx; omega
      clear hfr
      have H4 : Hid (RingAt w4 r gp gk R) := H3.out.below hb4
      have K4 : Hid (w4.heap[w.heap.size]? = some (.cells #[.int .u64 p.id, .int .i64 p.pred, .slice a len cap] 80 (0, 0))) := (hb4.block _ z3).trans K3.out
      have B4 : Hid (Below w.heap.size w w4) := B3.out.trans (hb4.mono B3.out.size)
      have z4 : w.heap.size < w4.heap.size := by have := hb4.size; omega
      have HP5 : Hid (PeIn w4 p.id p.pred a5 m5 c5 (q :: (R.know q).succ.take 2)) := ⟨HP.out.hid, HP.out.hpred, h5, hc5, hd5, fun e => by have h := h5; subst e; rcases h.2.2 with h0 | ⟨b, o, ha, _⟩; exact h0; cases ha⟩
      clear hb4 hlook4 c1 z h5 hc5 hd5 hm5 hm5p
      obtain ⟨W5, hW5⟩ : ∃ W5, W5 = w4.setCell ⟨w.heap.size, 2, none⟩ (.slice a5 m5 c5) := ⟨_, rfl⟩
      have k4 := K4.out
      have x0 : w4.cell? ⟨w.heap.size, 0, none⟩ = some (.int .u64 p.id) := by simp [World.cell?, k4]
      have x1 : w4.cell? ⟨w.heap.size, 1, none⟩ = some (.int .i64 p.pred) := by simp [World.cell?, k4]
      have x2 : w4.cell? ⟨w.heap.size, 2, none⟩ = some (.slice a len cap) := by simp [World.cell?, k4]
      have xf : ∀ o, w4.frozen? ⟨w.heap.size, o, none⟩ = false := fun o => by simp [World.frozen?, k4]
      have B5 : Hid (Below w.heap.size w W5) := by rw [hW5]; exact B4.out.setCell (by simp) _
      have H5 : Hid (RingAt W5 r gp gk R) := H.out.below B5.out
      have y0 : W5.cell? ⟨w.heap.size, 0, none⟩ = some (.int .u64 p.id) := by rw [hW5]; simp [go_sem, x0]
      have y1 : W5.cell? ⟨w.heap.size, 1, none⟩ = some (.int .i64 p.pred) := by rw [hW5]; simp [go_sem, x1]
      have y2 : W5.cell? ⟨w.heap.size, 2, none⟩ = some (.slice a5 m5 c5) := by rw [hW5]; simp [go_sem, x2]
      have HP6 : Hid (PeIn W5 p.id p.pred a5 m5 c5 (q :: (R.know q).succ.take 2)) := by
        refine ⟨HP5.out.hid, HP5.out.hpred, ?_, HP5.out.hcap, HP5.out.hmost, HP5.out.hnil⟩
        have h := HP5.out.row
        refine ⟨h.1, h.2.1, ?_⟩
        rcases h.2.2 with h0 | ⟨b, o, ha, hlt, hc⟩
        · exact .inl h0
        · refine .inr ⟨b, o, ha, by rw [hW5]; simpa [World.setCell] using hlt, fun i hi => ⟨(hc i hi).1, fun j hj => ?_⟩⟩
          have hne : w.heap.size ≠ b := by have := HF5.out _ ha; simp at this; omega
          rw [hW5, World.cell?_of_block (Below.heap_setCell _ _ _ _ (Ne.symm hne))]
          exact (hc i hi).2 j hj
      obtain ⟨R1, hR1⟩ : ∃ R1, R1 = R.setK n ⟨p.id, p.pred, q :: (R.know q).succ.take 2⟩ := ⟨_, rfl⟩
      have HR1 : Hid (R.learn n q = R1) := by show R.setK n ⟨(R.know n).id, (R.know n).pred, q :: (R.know q).succ.take 2⟩ = R1; rw [EP.out, hR1]
      obtain ⟨w6, e6, h6, k6⟩ := (H5.out.drew (W5.drawn + 1)).putK n ⟨p.id, p.pred, q :: (R.know q).succ.take 2⟩ (HP6.out.below (Nat.le_refl _) (w' := { W5 with drawn := W5.drawn + 1 }) ⟨rfl, rfl, rfl, Nat.le_refl _, fun _ _ => rfl⟩) (fun x hx hc => by have := HF5.out x hx; have := H.out.old _ hc; omega)
      have e6' : (Instr.mapUpdate 109 (.map (some gk)) (.int .i64 n) (.agg #[.int .u64 p.id, .int .i64 p.pred, .slice a5 m5 c5])).run Tryz.prog W5.drew = .ok () w6 := e6
      rw [← hR1] at h6
      have K6 : Hid (Kp w w6 gp gk) := (Kp.ofBelow B5.out).trans ((Kp.drawn W5 (W5.drawn + 1) gp gk).trans k6)
      have H6 : Hid (RingAt w6 r gp gk R1) := h6
      have c1 := H5.out.c1
      have z := H5.out.lt.1
      have z5 : w.heap.size < W5.heap.size := by rw [hW5]; simpa [World.setCell] using z4
      clear e6 h6 k6 hR1
      go_upto_region 9 with fail
      rw [← hW5]
      clear hW5 x0 x1 x2 xf k4 z4
      go_region
      clear c1 z y0 y1 y2 e6'
      have c1 := H6.out.c1
      have z := H6.out.lt.1
      obtain ⟨a7, len7, cap7, hp7, hlook7⟩ := (H6.out.drew (w6.drawn + 1)).asked q
      have hlook7' : (Instr.lookup 109 (.map (some gk)) (.int .i64 q) false).run Tryz.prog w6.drew = .ok (.agg #[.int .u64 (R1.know q).id, .int .i64 (R1.know q).pred, .slice a7 len7 cap7]) w6.drew := hlook7
      have HCL : Hid (∀ x, a7 = some x → ¬ R1.cl x.block) := (H6.out.drew (w6.drawn + 1)).clear hlook7
      have HP7 : Hid (PeIn w6.drew (R1.know q).id (R1.know q).pred a7 len7 cap7 (R1.know q).succ) := hp7
      have H6d : Hid (RingAt w6.drew r gp gk R1) := H6.out.drew (w6.drawn + 1)
      obtain ⟨x, hx⟩ : ∃ x, R1.rect (R1.know q).id (R1.know q).pred n = x := ⟨_, rfl⟩
      have HX7 : Hid _ := hx
      have HX8 : Hid (i64 x) := by
        rw [← hx]
        rcases rect_or R1 (R1.know q).id (R1.know q).pred n with e | e
        · rw [e]; exact HN.out
        · rw [e]; exact hp7.hpred
      clear hx hp7 hlook7
      go_upto_region 10 with fail
      go_region_with ((go_at_call 94; refine (rectify_r r gp gk R1 _ _ _ _ _ _ _ H6d.out).mono ?_; rintro e w7 ⟨rfl, hb7⟩; rw [HX7.out]; have H7 : Hid (RingAt w7 r gp gk R1) := H6d.out.below hb7; have K7 : Hid (Kp w w7 gp gk) := K6.out.trans ((Kp.drawn w6 (w6.drawn + 1) gp gk).trans (Kp.ofBelow hb7)); obtain ⟨w8, e8, h8, k8⟩ := H7.out.putK q ⟨(R1.know q).id, x, (R1.know q).succ⟩ (a := a7) (len := len7) (cap := cap7) ⟨HP7.out.hid, HX8.out, HP7.out.row.below (Nat.le_refl _) hb7, HP7.out.hcap, HP7.out.hmost, HP7.out.hnil⟩ HCL.out; have c17 := H7.out.c1; have z7 := H7.out.lt.1))
      go_wp2
      all_goals
        go_ret
        refine ⟨by rw [E.out.1]; rfl, ?_, K7.out.trans k8⟩
        rw [E.out.2, HX.out, HR1.out]
        show RingAt w8 r gp gk (R1.setK q ⟨(R1.know q).id, R1.rect (R1.know q).id (R1.know q).pred n, (R1.know q).succ⟩)
        rw [HX7.out]
        exact h8
end Go.Proofs.YtmajlldfiiokoaaGreatDoor

/- slices.Clone at ints; Peer; Round. -/
namespace Go.Proofs.YtmajlldfiiokoaaGreatDoor
open Go.ChangeShapes Go.WideShapes Go.ChangeAt Go.RowKit Go.Deep
set_option linter.unusedVariables false

def Rg.round (R : Rg) : Rg := R.live.foldl (fun R n => R.stab n) R

set_option maxRecDepth 100000 in
set_option maxHeartbeats 2000000 in
theorem round_r (r gp gk : Nat) (R : Rg) (w : World) (h : RingAt w r gp gk R) :
    Calls Tryz.prog 12 #[.pointer (some ⟨r, 0, none⟩)] w fun e w' => e = .returned (.tuple #[]) ∧ RingAt w' r gp gk R.round ∧ Kp w w' gp gk := by
  have H : Hid (RingAt w r gp gk R) := h
  clear h
  go_enter Tryz.func12, Tryz.ntmps12
  go_wp2_with fail
  refine (live_r r gp gk R _ H.out).mono ?_
  rintro e w2 ⟨a, c, rfl, hL, _, hb⟩
  obtain ⟨l, hl⟩ : ∃ l, l = R.live := ⟨_, rfl⟩
  rw [← hl] at hL ⊢
  have HL : Hid (InIn w2 a l.length l) := hL
  have HE : Hid (R.round = l.foldl (fun R n => R.stab n) R) := by rw [hl]; rfl
  have H2 : Hid (RingAt w2 r gp gk R ∧ Kp w w2 gp gk) := ⟨H.out.below hb, Kp.ofBelow hb⟩
  have hlen := hL.2.1
  clear hL hl hb
  go_wp2
  go_loopg [7] l.length (fun kx s wr => ∃ k : Nat, s = .int .i64 k ∧ k ≤ l.length ∧ kx = l.length - k ∧ Hid (RingAt wr r gp gk ((l.take k).foldl (fun R n => R.stab n) R) ∧ Kp w wr gp gk ∧ InIn wr a l.length l))
  case atStart => exact ⟨0, rfl, Nat.zero_le _, rfl, (⟨H2.out.1, H2.out.2, HL.out⟩ : RingAt w2 r gp gk ((l.take 0).foldl (fun R n => R.stab n) R) ∧ Kp w w2 gp gk ∧ InIn w2 a l.length l)⟩
  case round =>
    obtain ⟨k, rfl, hk, rfl, HB⟩ := hrel
    by_cases hlt : k < l.length
    · obtain ⟨b, o, rfl, hbb, hx, hc⟩ := HB.out.2.2.one (v := Value.int .i64) (fun _ => rfl) (i := k) hlt
      have e : (l.take (k + 1)).foldl (fun R n => R.stab n) R = ((l.take k).foldl (fun R n => R.stab n) R).stab (l.getD k 0) := by
        have ek : l.getD k 0 = l[k] := by simp [List.getD, hlt]
        rw [List.take_succ_eq_append_getElem hlt, List.foldl_append, ek]; rfl
      have HE2 : Hid _ := e
      have HX : Hid (i64 (l.getD k 0)) := hx
      clear e hx
      generalize l.getD k 0 = x at hc HE2 HX
      go_wp2_with (go_at_call 46; refine (stab_r r gp gk _ _ _ HB.out.1 HX.out).mono ?_; rintro e w3 ⟨rfl, h3, k3⟩)
      go_roundg (l.length - (k + 1))
      case measure => omega
      case rel =>
        obtain ⟨mp, hmp, _⟩ := HB.out.1.places
        obtain ⟨mk, hmk, _⟩ := HB.out.1.known
        refine ⟨k + 1, by go_num, by omega, rfl, ?_⟩
        rw [HE2.out]
        exact ⟨h3, HB.out.2.1.trans k3, InRow.kp HB.out.2.2 k3 hmp hmk⟩
    · obtain rfl : k = l.length := by omega
      go_wp2
      go_end0
      have h := HB.out
      rw [List.take_length] at h
      exact ⟨rfl, by rw [HE.out]; exact h.1, h.2.1⟩
end Go.Proofs.YtmajlldfiiokoaaGreatDoor

/- slices.Grow of nothing, slices.Concat of two lists of ints. -/
namespace Go.Proofs.YtmajlldfiiokoaaGreatDoor
open Go.ChangeShapes Go.WideShapes Go.ChangeAt Go.RowKit Go.Deep
set_option linter.unusedVariables false

theorem wpList_append_run {P : Program} {w : World} {ops : Array Oper} {rest : List Oper} {o : Oper} {a : Act} {Q : Exit → Act → World → Prop} (hgd : o.guard = none) (s x : Operand) (t tx : TypeId)
    (ho : o.op = .call { callee := .builtin .append, args := #[s, x], argTypes := #[t, tx] }) (v : Value) (xv : Value) (hv : a.eval s = v) (hx : a.eval x = xv) (v' : Value) (w' : World)
    (hrun : (Builtin.append_ #[t, tx] o.type #[v, xv]).run P w = .ok v' w') (hK : wpList P ops Q rest (a.put o.dst v') w') : wpList P ops Q (o :: rest) a w := by
  refine wpList_plain hgd fun K hK' => ?_
  unfold Oper.wp
  simp [execOp, ho, resolve, invoke, builtin, hv, hx, hrun, Result.andThen]
  exact hK' _ _ hK

/-- append(nil, make([]int, 3)...). -/
theorem run_grow3 (w : World) (ty : TypeId) :
    (Builtin.append_ #[24, 3] ty #[.slice none 0 0, .int .i64 3]).run Tryz.prog w =
      .ok (.slice (some ⟨w.heap.size, 0, none⟩) 3 (grownCap w 3 0 3)) (w.drew.alloc (.cells (Builtin.zeroCells #[.int .i64 0] 3 ++ Builtin.zeroCells #[.int .i64 0] (grownCap w 3 0 3 - 3)) 3)) := by
  obtain ⟨i0, hi, hz0, hz1, hz2⟩ := info_of Tryz.infoInt
  have hs : IntKind.i64.wrap 3 = 3 := by decide
  simp [Builtin.append_, run_underlying Tryz.underlying24, run_underlying Tryz.underlying3, sizeOf, typeInfo, zeroValue, hi, hz0, hz1, hz2, Question.forced, newRow, grownCap, Builtin.firstCells, asInt, asIntOf, hs, Builtin.nextslicecap, Value.cells, askRoom]
  intro h; omega

set_option maxRecDepth 100000 in
set_option maxHeartbeats 1000000 in
theorem grow3_r (w : World) :
    Calls Tryz.prog 126 #[.slice none 0 0, .int .i64 3] w fun e w' => ∃ v, e = .returned v ∧ w'.ownsRow w.heap.size 3 1 v 0 [] ∧ Below w.heap.size w w' := by
  have hc1 : 3 ≤ grownCap w 3 0 3 := grownCap_ge w 3 0 3
  have hc2 : grownCap w 3 0 3 ≤ maxLen := grownCap_le_maxLen w 3 0 3 (by decide)
  have hr := run_grow3 w
  obtain ⟨W, hW⟩ : ∃ W, W = w.drew.alloc (.cells (Builtin.zeroCells #[.int .i64 0] 3 ++ Builtin.zeroCells #[.int .i64 0] (grownCap w 3 0 3 - 3)) 3) := ⟨_, rfl⟩
  have HB : Hid (Below w.heap.size w W) := by rw [hW]; exact (Below.refl _ _ : Below w.heap.size w w).trans ⟨rfl, rfl, rfl, by simp, fun k hk => Below.heap_alloc w.drew _ k hk⟩
  have HG : Hid (W.heap[w.heap.size]? = some (.cells (Builtin.zeroCells #[.int .i64 0] 3 ++ Builtin.zeroCells #[.int .i64 0] (grownCap w 3 0 3 - 3)) 3 (0, 0))) := by rw [hW]; exact heap_alloc_new w.drew _
  generalize grownCap w 3 0 3 = c at *
  rw [← hW] at hr
  have HR : Hid _ := hr
  clear hr hW
  unfold maxLen at hc2
  have hc3 : 0 ≤ c := by omega
  go_enter Tryz.func126, Tryz.ntmps126
  go_wp2_with (at_builtin; refine wpList_append_run rfl _ _ 24 3 rfl _ _ rfl rfl _ _ (HR.out _) ?_)
  go_ret
  refine ⟨_, rfl, ?_, HB.out⟩
  exact ⟨rfl, .inr ⟨w.heap.size, c, _, rfl, Nat.le_refl _, HG.out, by omega, by unfold maxLen; omega, by simp [size_zeroCells]; omega, rfl⟩⟩

set_option maxRecDepth 100000 in
set_option maxHeartbeats 2000000 in
/-- Concat of two lists, three in all. -/
theorem concat_r (g : Nat) (a1 : Option Addr) (n1 c1 : Nat) (l1 : List Int) (a2 : Option Addr) (n2 c2 : Nat) (l2 : List Int) (w : World) (h0 : w.cell? ⟨g, 0, none⟩ = some (.slice a1 n1 c1)) (h1 : w.cell? ⟨g, 1, none⟩ = some (.slice a2 n2 c2))
    (hl1 : InIn w a1 n1 l1) (hl2 : InIn w a2 n2 l2) (hn1 : a1 = none → n1 = 0) (hn2 : a2 = none → n2 = 0) (h3 : n1 + n2 = 3) :
    Calls Tryz.prog 80 #[.slice (some ⟨g, 0, none⟩) 2 2] w fun e w' => ∃ a c, e = .returned (.slice a 3 c) ∧ InIn w' a 3 (l1 ++ l2) ∧ 3 ≤ c ∧ c ≤ 9223372036854775807 ∧ a ≠ none ∧ (∀ x, a = some x → w.heap.size ≤ x.block) ∧ Below w.heap.size w w' := by
  obtain ⟨i0, hi, hz0, hz1, hz2⟩ := info_of Tryz.infoInt
  have HL : Hid (InIn w a1 n1 l1 ∧ InIn w a2 n2 l2 ∧ (a1 = none → n1 = 0) ∧ (a2 = none → n2 = 0)) := ⟨hl1, hl2, hn1, hn2⟩
  have hg : g < w.heap.size := cell_block h0
  have q1 : (n1 : Int) + (n2 : Int) = 3 := by omega
  have q2 : ¬ (n1 : Int) < 0 := by omega
  have q3 : ¬ (n1 : Int) + (n2 : Int) < 0 := by omega
  have HC : Hid (w.cell? ⟨g, 0, none⟩ = some (.slice a1 n1 c1) ∧ w.cell? ⟨g, 1, none⟩ = some (.slice a2 n2 c2)) := ⟨h0, h1⟩
  have hb1 : (n1 : Int) ≤ 3 := by omega
  have hb2 : (n2 : Int) ≤ 3 := by omega
  clear hl1 hl2 hn1 hn2
  go_enter Tryz.func80, Tryz.ntmps80
  go_wp2
  refine wp_loop_rounds 3 ?_
  rw [rounds_succ]
  go_wp2
  rw [rounds_succ]
  go_wp2
  rw [rounds_succ]
  go_wp2_with fail
  refine (grow3_r _).mono ?_
  rintro e w2 ⟨v, rfl, hv, hb⟩
  have HB2 : Hid (Below w.heap.size w w2) := hb
  have HV : Hid (w2.ownsRow w.heap.size 3 1 v 0 []) := hv
  have x0 := cell_grown HC.out.1 hb
  have x1 := cell_grown HC.out.2 hb
  have z2 : g < w2.heap.size := by have := hb.size; omega
  have HS1 : Hid (Src Tryz.prog 1 24 (.slice a1 n1 c1) n1 (l1.map cellI) w2) := src_ints (HL.out.1.below (Nat.le_refl _) hb) HL.out.2.2.1
  clear hv hb h0 h1
  go_wp2
  refine wp_loop_rounds 3 ?_
  rw [rounds_succ]
  go_wp2_with (at_builtin; refine wpList_own_append _ rfl _ _ 24 24 rfl w.heap.size 3 i0 _ 8 Tryz.underlying24 hi hz0 hz1 hz2 rfl _ _ _ rfl HV.out _ n1 _ rfl HS1.out ?c3 ?c4 ?c5 ?_)
  case c3 => unfold maxLen; omega
  case c4 => omega
  case c5 => exact HB2.out.size
  intro v3 w3 ha
  have hgr := ha.grown
  have HB3 : Hid (Below w.heap.size w w3) := HB2.out.trans ⟨hgr.os, hgr.tape, hgr.output, hgr.size, fun k hk => hgr.block k (by have := HB2.out.size; omega) (fun e => by have := (World.ownsRow.lt HV.out k e.symm).1; omega)⟩
  have HV3 : Hid (w3.ownsRow w.heap.size 3 1 v3 n1 (l1.map cellI)) := (show w3.ownsRow w.heap.size 3 1 v3 n1 (l1.map cellI) by simpa using ha.row)
  clear ha hgr x0 x1
  have x0 := cell_grown HC.out.1 HB3.out
  have x1 := cell_grown HC.out.2 HB3.out
  have z3 : g < w3.heap.size := by have := HB3.out.size; omega
  have HS2 : Hid (Src Tryz.prog 1 24 (.slice a2 n2 c2) n2 (l2.map cellI) w3) := src_ints (HL.out.2.1.below (Nat.le_refl _) HB3.out) HL.out.2.2.2
  go_wp2
  rw [rounds_succ]
  go_wp2_with (at_builtin; refine wpList_own_append _ rfl _ _ 24 24 rfl w.heap.size 3 i0 _ 8 Tryz.underlying24 hi hz0 hz1 hz2 rfl _ _ _ rfl HV3.out _ n2 _ rfl HS2.out ?d3 ?d4 ?d5 ?_)
  case d3 => unfold maxLen; omega
  case d4 => omega
  case d5 => exact HB3.out.size
  intro v4 w4 ha
  have hgr := ha.grown
  have HB4 : Hid (Below w.heap.size w w4) := HB3.out.trans ⟨hgr.os, hgr.tape, hgr.output, hgr.size, fun k hk => hgr.block k (by have := HB3.out.size; omega) (fun e => by have := (World.ownsRow.lt HV3.out k e.symm).1; omega)⟩
  obtain ⟨a4, c4, hv4⟩ := ha.shape
  subst hv4
  have HV4 : Hid (w4.ownsRow w.heap.size 3 1 (.slice a4 3 c4) 3 ((l1 ++ l2).map cellI)) := (show w4.ownsRow w.heap.size 3 1 (.slice a4 3 c4) 3 ((l1 ++ l2).map cellI) by simpa using ha.row)
  clear ha hgr
  go_wp2
  rw [rounds_succ]
  go_wp2
  go_ret
  have hk := own_caps HV4.out
  refine ⟨a4, c4, rfl, in_of_own HV4.out (fun x hx => ?_) (by omega), hk.1, hk.2, fun e => ?_, own_new HV4.out, HB4.out⟩
  · rcases List.mem_append.1 hx with h | h
    · exact ints_ok HL.out.1 x h
    · exact ints_ok HL.out.2.1 x h
  · subst e
    rcases HV4.out.2 with ⟨_, e⟩ | ⟨g, cap, cur, hv, _⟩
    · cases e
    · cases hv
end Go.Proofs.YtmajlldfiiokoaaGreatDoor
