/- Rows of things of k cells each, as lists. No program in sight. -/
import Derived.WalkKit
set_option linter.unnecessarySimpa false
namespace Go.Proofs.YtmajlldfiiokoaaGreatDoor
open Go.RowKit

section
variable {α : Type} (enc : α → List Value) (k : Nat) (hk : ∀ a, (enc a).length = k)
include hk
theorem flat_len (l : List α) : (l.flatMap enc).length = l.length * k := by
  induction l with
  | nil => simp
  | cons a l ih => rw [List.flatMap_cons, List.length_append, hk, ih, List.length_cons, Nat.add_mul]; omega
theorem flat_get (d : α) (l : List α) (i j : Nat) (hi : i < l.length) (hj : j < k) : (l.flatMap enc)[i * k + j]? = (enc (l.getD i d))[j]? := by
  induction l generalizing i with
  | nil => simp at hi
  | cons u us ih =>
    rw [List.flatMap_cons]
    cases i with
    | zero => rw [List.getElem?_append_left (by rw [hk]; omega)]; simp
    | succ i =>
      rw [List.getElem?_append_right (by rw [hk, Nat.add_mul]; omega), hk]
      have e : (i + 1) * k + j - k = i * k + j := by rw [Nat.add_mul]; omega
      rw [e, ih i (by simpa using hi)]
      simp
theorem flat_take (l : List α) (i : Nat) : (l.flatMap enc).take (i * k) = (l.take i).flatMap enc := by
  induction l generalizing i with
  | nil => simp
  | cons u us ih =>
    cases i with
    | zero => simp
    | succ i =>
      have e : (i + 1) * k = (enc u).length + i * k := by rw [hk, Nat.add_mul]; omega
      rw [List.flatMap_cons, e, List.take_length_add_append, ih, List.take_succ_cons, List.flatMap_cons]
theorem flat_drop (l : List α) (i : Nat) : (l.flatMap enc).drop (i * k) = (l.drop i).flatMap enc := by
  induction l generalizing i with
  | nil => simp
  | cons u us ih =>
    cases i with
    | zero => simp
    | succ i =>
      have e : (i + 1) * k = (enc u).length + i * k := by rw [hk, Nat.add_mul]; omega
      rw [List.flatMap_cons, e, List.drop_length_add_append, ih, List.drop_succ_cons]
end
end Go.Proofs.YtmajlldfiiokoaaGreatDoor

/- Packets and bags, as lists. No program in sight. -/
namespace Go.Proofs.YtmajlldfiiokoaaGreatDoor
open Go.RowKit

structure Pk where
  id : Int
  src : Int
  dst : Int
  s : ByteArray

def pk0 : Pk := ⟨0, 0, 0, ByteArray.empty⟩
/-- A packet as cells. -/
def Pk.cells (p : Pk) : List Value := [.int .i64 p.id, .int .i64 p.src, .int .i64 p.dst, .string p.s]
theorem Pk.cells_len (p : Pk) : p.cells.length = 4 := rfl
/-- A packet as a value. -/
def Pk.val (p : Pk) : Value := .agg #[.int .i64 p.id, .int .i64 p.src, .int .i64 p.dst, .string p.s]

def i64 (x : Int) : Prop := -9223372036854775808 ≤ x ∧ x ≤ 9223372036854775807
/-- What stands in a packet of a bag whose last number is m. -/
structure Pk.ok (m : Int) (p : Pk) : Prop where
  lo : 1 ≤ p.id
  hi : p.id ≤ m
  src : i64 p.src
  dst : i64 p.dst
  s : p.s.size ≤ 2000

def Rising (ps : List Pk) : Prop := ps.Pairwise fun p q => p.id < q.id

structure Bg where
  ps : List Pk
  last : Int

structure Bg.ok (g : Bg) : Prop where
  rise : Rising g.ps
  all : ∀ p ∈ g.ps, p.ok g.last
  len : g.ps.length ≤ 4000
  lo : 0 ≤ g.last

def bg0 : Bg := ⟨[], 0⟩
theorem bg0_ok : bg0.ok := ⟨List.Pairwise.nil, by simp [bg0], by simp [bg0], by simp [bg0]⟩

def Bg.add (g : Bg) (a b : Int) (s : ByteArray) : Bg := ⟨g.ps ++ [⟨g.last + 1, a, b, s⟩], g.last + 1⟩
def Bg.del (g : Bg) (k : Nat) : Bg := ⟨g.ps.eraseIdx k, g.last⟩
def Bg.purge (g : Bg) (t : Int) : Bg := ⟨g.ps.filter fun p => p.dst != t, g.last⟩

theorem Pk.ok.mono {m n : Int} {p : Pk} (h : p.ok m) (hmn : m ≤ n) : p.ok n := ⟨h.lo, Int.le_trans h.hi hmn, h.src, h.dst, h.s⟩

theorem Bg.ok.add {g : Bg} (h : g.ok) (a b : Int) (s : ByteArray) (hs : s.size ≤ 2000) (hl : g.ps.length < 4000) (ha : i64 a) (hb : i64 b) : (g.add a b s).ok := by
  refine ⟨?_, ?_, ?_, ?_⟩
  · unfold Bg.add Rising
    refine List.pairwise_append.2 ⟨h.rise, List.pairwise_singleton _ _, fun p hp q hq => ?_⟩
    obtain rfl := List.mem_singleton.1 hq
    have := (h.all p hp).hi
    show p.id < g.last + 1
    omega
  · intro p hp
    rcases List.mem_append.1 hp with hp | hp
    · exact (h.all p hp).mono (by show g.last ≤ g.last + 1; omega)
    · obtain rfl := List.mem_singleton.1 hp
      exact ⟨by show 1 ≤ g.last + 1; have := h.lo; omega, Int.le_refl _, ha, hb, hs⟩
  · show (g.ps ++ [_]).length ≤ 4000; simp; omega
  · show 0 ≤ g.last + 1; have := h.lo; omega

theorem Bg.ok.del {g : Bg} (h : g.ok) (k : Nat) : (g.del k).ok :=
  ⟨h.rise.sublist (List.eraseIdx_sublist _ _), fun p hp => h.all p ((List.eraseIdx_sublist _ _).subset hp), Nat.le_trans (List.eraseIdx_sublist _ _).length_le h.len, h.lo⟩
theorem Bg.ok.purge {g : Bg} (h : g.ok) (t : Int) : (g.purge t).ok :=
  ⟨h.rise.sublist List.filter_sublist, fun p hp => h.all p (List.filter_sublist.subset hp), Nat.le_trans List.filter_sublist.length_le h.len, h.lo⟩

theorem rising_lt {ps : List Pk} (h : Rising ps) {i j : Nat} (hij : i < j) (hj : j < ps.length) : (ps.getD i pk0).id < (ps.getD j pk0).id := by
  have := List.pairwise_iff_getElem.1 h i j (by omega) hj hij
  simpa [List.getD, List.getElem?_eq_getElem (show i < ps.length by omega), List.getElem?_eq_getElem hj] using this
theorem rising_le {ps : List Pk} (h : Rising ps) {i j : Nat} (hij : i ≤ j) (hj : j < ps.length) : (ps.getD i pk0).id ≤ (ps.getD j pk0).id := by
  by_cases e : i = j
  · subst e; exact Int.le_refl _
  · exact Int.le_of_lt (rising_lt h (by omega) hj)
theorem getD_mem (ps : List Pk) (i : Nat) (h : i < ps.length) : ps.getD i pk0 ∈ ps := by
  rw [List.getD_eq_getElem?_getD, List.getElem?_eq_getElem h]; simp
theorem mem_getD {ps : List Pk} {p : Pk} (h : p ∈ ps) : ∃ i, i < ps.length ∧ ps.getD i pk0 = p := by
  obtain ⟨i, hi, e⟩ := List.mem_iff_getElem.1 h
  exact ⟨i, hi, by rw [List.getD_eq_getElem?_getD, List.getElem?_eq_getElem hi]; simpa using e⟩
/-- Is there a packet of this number, and where? -/
theorem at_or (ps : List Pk) (id : Int) : (∃ k, k < ps.length ∧ (ps.getD k pk0).id = id) ∨ ∀ p ∈ ps, p.id ≠ id := by
  by_cases h : ∃ k, k < ps.length ∧ (ps.getD k pk0).id = id
  · exact .inl h
  · refine .inr fun p hp e => h ?_
    obtain ⟨k, hk, hkp⟩ := mem_getD hp
    exact ⟨k, hk, by rw [hkp]; exact e⟩
/-- Without the packet at k is without the packet of its number. -/
theorem erase_filter {ps : List Pk} (h : Rising ps) (k : Nat) (hk : k < ps.length) : ps.eraseIdx k = ps.filter fun p => p.id != (ps.getD k pk0).id := by
  induction ps generalizing k with
  | nil => simp at hk
  | cons u us ih =>
    have hu := List.pairwise_cons.1 h
    cases k with
    | zero =>
      simp only [List.eraseIdx_zero, List.tail_cons, List.getD_cons_zero]
      rw [List.filter_cons]
      simp only [bne_self_eq_false, Bool.false_eq_true, if_false]
      refine (List.filter_eq_self.2 fun p hp => ?_).symm
      have := hu.1 p hp
      simp; omega
    | succ k =>
      have hk' : k < us.length := by simpa using hk
      have hm := hu.1 _ (getD_mem us k hk')
      simp only [List.eraseIdx_cons_succ, List.getD_cons_succ]
      rw [List.filter_cons]
      have e : (u.id != (us.getD k pk0).id) = true := by simp only [bne_iff_ne, ne_eq]; omega
      rw [e, if_pos rfl, ih hu.2 k hk']
end Go.Proofs.YtmajlldfiiokoaaGreatDoor
