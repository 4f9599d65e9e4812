/- A row of places in memory: what it holds, what a call on it leaves as it was, a swap; cmp.Less at places. -/
import Derived.Test.YtkkkldglceiiiaaGreatRows
import Derived.Test.YtkkkldglceiiiaaGreatAid
import Derived.Sort.Row
import Derived.Sort.Statements
import Derived.WalkKit
import Derived.ProofKit
import Derived.OpenShut
import Derived.WalkLawsBesides
import Derived.Deep.QuietTactic
import Derived.BigQuiet
import Derived.BigRegion
import Derived.ChangeAlike
import Derived.Outline
namespace Go.Proofs.YtkkkldglceiiiaaGreat
open Go.ChangeShapes Go.WideShapes Go.ChangeAt Go.RowKit
open Go.Sort (swp ltInt)
set_option linter.unusedVariables false

/-- The row at (blk, off) holds the numbers d, and may be written. -/
def Row (w : World) (blk off : Nat) (d : Array Int) : Prop := ∀ j, j < d.size → w.cell? ⟨blk, off + j, none⟩ = some (.int .u64 d[j]!) ∧ w.frozen? ⟨blk, off + j, none⟩ = false

/-- All but block blk is as it was; there may be more blocks. -/
structure RK (w w' : World) (blk : Nat) : Prop where
  os : w'.os = w.os
  tape : w'.tape = w.tape
  output : w'.output = w.output
  size : w.heap.size ≤ w'.heap.size
  block : ∀ k, k < w.heap.size → k ≠ blk → w'.heap[k]? = w.heap[k]?
theorem RK.refl (w : World) (blk : Nat) : RK w w blk := ⟨rfl, rfl, rfl, Nat.le_refl _, fun _ _ _ => rfl⟩
theorem RK.trans {a b c : World} {blk : Nat} (h : RK a b blk) (k : RK b c blk) : RK a c blk :=
  ⟨k.os.trans h.os, k.tape.trans h.tape, k.output.trans h.output, Nat.le_trans h.size k.size, fun i hi hn => (k.block i (Nat.lt_of_lt_of_le hi h.size) hn).trans (h.block i hi hn)⟩
theorem RK.drewN (w : World) (blk n : Nat) : RK w (w.drewN n) blk := ⟨rfl, rfl, rfl, Nat.le_refl _, fun _ _ _ => rfl⟩
theorem RK.setCell (w : World) (blk o : Nat) (v : Value) : RK w (w.setCell ⟨blk, o, none⟩ v) blk :=
  ⟨rfl, rfl, rfl, by simp [World.setCell], fun k _ hk => Below.heap_setCell _ _ _ _ (by simpa using hk)⟩
theorem RK.below {B : Nat} {a w w' : World} {blk : Nat} (h : RK w w' blk) (hB : B ≤ blk) (hs : B ≤ w.heap.size) (hb : Below B a w) : Below B a w' :=
  hb.trans ⟨h.os, h.tape, h.output, h.size, fun k hk => h.block k (by omega) (by omega)⟩
/-- What only a block of its own was used for. -/
theorem RK.fresh {w w' : World} {o : Obj} (blk : Nat) (h : RK (w.alloc o) w' w.heap.size) : RK w w' blk :=
  ⟨h.os, h.tape, h.output, by have := h.size; simp at this; omega, fun k hk _ => (h.block k (by simp; omega) (by omega)).trans (Below.heap_alloc w o k hk)⟩

theorem Row.carry {w w' : World} {blk off p : Nat} {d : Array Int} (h : Row w blk off d) (hK : RK w w' p) (hp : blk ≠ p) : Row w' blk off d := by
  intro j hj
  have hs : blk < w.heap.size := by
    rcases Nat.lt_or_ge blk w.heap.size with q | q
    · exact q
    · have := (h j hj).1; simp [World.cell?, Array.getElem?_eq_none q] at this
  have e := hK.block blk hs hp
  refine ⟨?_, ?_⟩
  · rw [← (h j hj).1]; simp only [World.cell?, e]
  · rw [← (h j hj).2]; simp only [World.frozen?, e]

/-- A block of one number. -/
def Cnt (w : World) (p s : Nat) : Prop := w.cell? ⟨p, 0, none⟩ = some (.int .i64 s) ∧ w.frozen? ⟨p, 0, none⟩ = false

theorem Row.drewN {w : World} {blk off : Nat} {d : Array Int} (h : Row w blk off d) (n : Nat) : Row (w.drewN n) blk off d := h

theorem swp_size (d : Array Int) (i j : Nat) : (swp d i j).size = d.size := by simp [swp]
theorem swp_at (d : Array Int) (i j k : Nat) (hi : i < d.size) (hj : j < d.size) : (swp d i j)[k]! = if k = j then d[i]! else if k = i then d[j]! else d[k]! := by
  unfold swp
  by_cases h1 : k = j
  · subst h1; rw [if_pos rfl, Go.Sort.getElem!_set_same _ _ _ (by simpa using hj)]
  · rw [if_neg h1, Go.Sort.getElem!_set_other _ _ _ _ h1]
    by_cases h2 : k = i
    · subst h2; rw [if_pos rfl, Go.Sort.getElem!_set_same _ _ _ hi]
    · rw [if_neg h2, Go.Sort.getElem!_set_other _ _ _ _ h2]

theorem cell_other (w : World) (blk o o' : Nat) (v : Value) (h : o ≠ o') : (w.setCell ⟨blk, o, none⟩ v).cell? ⟨blk, o', none⟩ = w.cell? ⟨blk, o', none⟩ :=
  World.cell?_setCell_other w _ _ v (fun e => h (by simpa using congrArg Addr.off e))

/-- Two places of a row change places. -/
theorem Row.swap {w : World} {blk off : Nat} {d : Array Int} (h : Row w blk off d) (i j : Nat) (hi : i < d.size) (hj : j < d.size) :
    Row ((w.setCell ⟨blk, off + i, none⟩ (.int .u64 d[j]!)).setCell ⟨blk, off + j, none⟩ (.int .u64 d[i]!)) blk off (swp d i j) := by
  intro k hk
  rw [swp_size] at hk
  refine ⟨?_, by rw [World.frozen?_setCell, World.frozen?_setCell]; exact (h k hk).2⟩
  rw [swp_at d i j k hi hj]
  by_cases h1 : k = j
  · subst h1
    rw [if_pos rfl]
    refine World.cell?_setCell_same' _ _ _ ?_
    by_cases h2 : k = i
    · subst h2; rw [World.cell?_setCell_same' _ _ _ (by rw [(h k hk).1]; rfl)]; rfl
    · rw [cell_other _ _ _ _ _ (by omega), (h k hk).1]; rfl
  · rw [if_neg h1, cell_other _ _ _ _ _ (by omega)]
    by_cases h2 : k = i
    · subst h2; rw [if_pos rfl]; exact World.cell?_setCell_same' _ _ _ (by rw [(h k hk).1]; rfl)
    · rw [if_neg h2, cell_other _ _ _ _ _ (by omega)]; exact (h k hk).1

/-- The second place of a swap, between its two stores. -/
theorem mid_cell {wr : World} {blk off : Nat} {d : Array Int} (h : Row wr blk off d) (i j : Nat) (hi : i < d.size) (hj : j < d.size) (x : Int) (hx : x = d[j]!) :
    (wr.setCell ⟨blk, off + i, none⟩ (.int .u64 x)).cell? ⟨blk, off + j, none⟩ = some (.int .u64 x) := by
  by_cases e : i = j
  · subst e; exact World.cell?_setCell_same' _ _ _ (by rw [(h i hi).1]; rfl)
  · rw [cell_other _ _ _ _ _ (by omega), (h j hj).1, hx]

/-- A swap in a row, some draws on: the row is the swapped one, all else as it was. -/
theorem swap_step {w wr : World} {blk off : Nat} {d : Array Int} (K : RK w wr blk) (h : Row wr blk off d) (n i j : Nat) (hi : i < d.size) (hj : j < d.size) (xi xj : Int) (hxi : xi = d[i]!) (hxj : xj = d[j]!) :
    RK w (((wr.drewN n).setCell ⟨blk, off + i, none⟩ (.int .u64 xj)).setCell ⟨blk, off + j, none⟩ (.int .u64 xi)) blk ∧
    Row (((wr.drewN n).setCell ⟨blk, off + i, none⟩ (.int .u64 xj)).setCell ⟨blk, off + j, none⟩ (.int .u64 xi)) blk off (swp d i j) := by
  subst hxi hxj
  exact ⟨((K.trans (RK.drewN _ _ _)).trans (RK.setCell _ _ _ _)).trans (RK.setCell _ _ _ _), Row.swap (h.drewN n) i j hi hj⟩
theorem still_step {w wr : World} {blk off : Nat} {d : Array Int} (K : RK w wr blk) (h : Row wr blk off d) (n : Nat) : RK w (wr.drewN n) blk ∧ Row (wr.drewN n) blk off d :=
  ⟨K.trans (RK.drewN _ _ _), h.drewN n⟩
/-- What a row's cells are, by a letter of their own. -/
theorem Row.fam {w : World} {blk off : Nat} {d : Array Int} (h : Row w blk off d) (N : Nat) (hN : d.size = N) : ∃ G : Nat → Int, (∀ t, G t = d[t]!) ∧ (∀ t, t < N → w.cell? ⟨blk, off + t, none⟩ = some (.int .u64 (G t))) ∧ (∀ t, t < N → w.frozen? ⟨blk, off + t, none⟩ = false) :=
  ⟨fun t => d[t]!, fun _ => rfl, fun t ht => (h t (by omega)).1, fun t ht => (h t (by omega)).2⟩

def nat' : Value → Nat | .int _ q => q.toNat | _ => 0

theorem not_true_of {b : Bool} (h : (!b) = true) : b = false := by simpa using h
theorem not_false_of {b : Bool} (h : (!b) = false) : b = true := by simpa using h

theorem less_any (x y : Int) (w : World) :
    Calls Tryz.prog 64 #[.int .u64 x, .int .u64 y] w fun e w' => e = .returned (.bool (ltInt x y)) ∧ w' = w := by
  go_enter Tryz.func64, Tryz.ntmps64
  go_wp2
  go_ret
  exact ⟨rfl, rfl⟩
end Go.Proofs.YtkkkldglceiiiaaGreat
