/- Rows of things of k cells each, as lists. No program in sight. -/
import Derived.WalkKit
set_option linter.unnecessarySimpa false
namespace Go.Proofs.YtmajlldfiiokoaaGreatDoor
open Go.RowKit

section
variable {α : Type} (enc : α → List Value) (k : Nat) (hk : ∀ a, (enc a).length = k)
include hk
theorem flat_len (l : List α) : (l.flatMap enc).length = l.length * k := by
  induction l with
  | nil => simp
  | cons a l ih => rw [List.flatMap_cons, List.length_append, hk, ih, List.length_cons, Nat.add_mul]; omega
theorem flat_get (d : α) (l : List α) (i j : Nat) (hi : i < l.length) (hj : j < k) : (l.flatMap enc)[i * k + j]? = (enc (l.getD i d))[j]? := by
  induction l generalizing i with
  | nil => simp at hi
  | cons u us ih =>
    rw [List.flatMap_cons]
    cases i with
    | zero => rw [List.getElem?_append_left (by rw [hk]; omega)]; simp
    | succ i =>
      rw [List.getElem?_append_right (by rw [hk, Nat.add_mul]; omega), hk]
      have e : (i + 1) * k + j - k = i * k + j := by rw [Nat.add_mul]; omega
      rw [e, ih i (by simpa using hi)]
      simp
theorem flat_take (l : List α) (i : Nat) : (l.flatMap enc).take (i * k) = (l.take i).flatMap enc := by
  induction l generalizing i with
  | nil => simp
  | cons u us ih =>
    cases i with
    | zero => simp
    | succ i =>
      have e : (i + 1) * k = (enc u).length + i * k := by rw [hk, Nat.add_mul]; omega
      rw [List.flatMap_cons, e, List.take_length_add_append, ih, List.take_succ_cons, List.flatMap_cons]
theorem flat_drop (l : List α) (i : Nat) : (l.flatMap enc).drop (i * k) = (l.drop i).flatMap enc := by
  induction l generalizing i with
  | nil => simp
  | cons u us ih =>
    cases i with
    | zero => simp
    | succ i =>
      have e : (i + 1) * k = (enc u).length + i * k := by rw [hk, Nat.add_mul]; omega
      rw [List.flatMap_cons, e, List.drop_length_add_append, ih, List.drop_succ_cons]
end
end Go.Proofs.YtmajlldfiiokoaaGreatDoor

/- Packets and bags, as lists. No program in sight. -/
namespace Go.Proofs.YtmajlldfiiokoaaGreatDoor
open Go.RowKit

structure Pk where
  id : Int
  src : Int
  dst : Int
  s : ByteArray

/-- A packet as cells. -/
def Pk.cells (p : Pk) : List Value := [.int .i64 p.id, .int .i64 p.src, .int .i64 p.dst, .string p.s]
theorem Pk.cells_len (p : Pk) : p.cells.length = 4 := rfl
/-- A packet as a value. -/
def Pk.val (p : Pk) : Value := .agg #[.int .i64 p.id, .int .i64 p.src, .int .i64 p.dst, .string p.s]

def i64 (x : Int) : Prop := -9223372036854775808 ≤ x ∧ x ≤ 9223372036854775807
/-- What stands in a packet of a bag whose last number is m. -/
structure Pk.ok (m : Int) (p : Pk) : Prop where
  lo : 1 ≤ p.id
  hi : p.id ≤ m
  src : i64 p.src
  dst : i64 p.dst
  s : p.s.size ≤ 2000

def Rising (ps : List Pk) : Prop := ps.Pairwise fun p q => p.id < q.id

structure Bg where
  ps : List Pk
  last : Int

structure Bg.ok (g : Bg) : Prop where
  rise : Rising g.ps
  all : ∀ p ∈ g.ps, p.ok g.last
  len : g.ps.length ≤ 4000
  lo : 0 ≤ g.last

def Bg.add (g : Bg) (a b : Int) (s : ByteArray) : Bg := ⟨g.ps ++ [⟨g.last + 1, a, b, s⟩], g.last + 1⟩
def Bg.del (g : Bg) (k : Nat) : Bg := ⟨g.ps.eraseIdx k, g.last⟩
theorem Pk.ok.mono {m n : Int} {p : Pk} (h : p.ok m) (hmn : m ≤ n) : p.ok n := ⟨h.lo, Int.le_trans h.hi hmn, h.src, h.dst, h.s⟩

theorem Bg.ok.add {g : Bg} (h : g.ok) (a b : Int) (s : ByteArray) (hs : s.size ≤ 2000) (hl : g.ps.length < 4000) (ha : i64 a) (hb : i64 b) : (g.add a b s).ok := by
  refine ⟨?_, ?_, ?_, ?_⟩
  · unfold Bg.add Rising
    refine List.pairwise_append.2 ⟨h.rise, List.pairwise_singleton _ _, fun p hp q hq => ?_⟩
    obtain rfl := List.mem_singleton.1 hq
    have := (h.all p hp).hi
    show p.id < g.last + 1
    omega
  · intro p hp
    rcases List.mem_append.1 hp with hp | hp
    · exact (h.all p hp).mono (by show g.last ≤ g.last + 1; omega)
    · obtain rfl := List.mem_singleton.1 hp
      exact ⟨by show 1 ≤ g.last + 1; have := h.lo; omega, Int.le_refl _, ha, hb, hs⟩
  · show (g.ps ++ [_]).length ≤ 4000; simp; omega
  · show 0 ≤ g.last + 1; have := h.lo; omega

theorem Bg.ok.del {g : Bg} (h : g.ok) (k : Nat) : (g.del k).ok :=
  ⟨h.rise.sublist (List.eraseIdx_sublist _ _), fun p hp => h.all p ((List.eraseIdx_sublist _ _).subset hp), Nat.le_trans (List.eraseIdx_sublist _ _).length_le h.len, h.lo⟩
end Go.Proofs.YtmajlldfiiokoaaGreatDoor
