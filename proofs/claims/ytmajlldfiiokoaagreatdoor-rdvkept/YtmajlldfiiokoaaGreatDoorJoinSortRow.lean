/- A row of places in memory: what it holds, what a call on it leaves as it was, a swap; cmp.Less at places. -/
import Derived.Test.YtmajlldfiiokoaaGreatDoorRows
import Derived.Test.YtmajlldfiiokoaaGreatDoorAid
import Derived.Sort.Row
import Derived.Sort.Statements
import Derived.WalkKit
import Derived.ProofKit
import Derived.OpenShut
import Derived.WalkLawsBesides
import Derived.Deep.QuietTactic
import Derived.BigQuiet
import Derived.BigRegion
import Derived.ChangeAlike
import Derived.Outline
import Derived.BigGuard
import Derived.BigCall
import Derived.CellFam
import Derived.Deep.Draws
import Derived.Deep.CutBlock
import Derived.Sort.LotD5
import Derived.Lib.BitFns
import Derived.Lib.Walk
import Derived.Sort.AssemblyPlain
import Derived.Sort.Walk13a
import Derived.Test.YtmajlldfiiokoaaGreatDoorOwnSrc
import Derived.OneCell
import Derived.Deep.AppendSrc
import Derived.Lib.SliceRun
set_option linter.unnecessarySimpa false
namespace Go.Proofs.YtmajlldfiiokoaaGreatDoor
open Go.ChangeShapes Go.WideShapes Go.ChangeAt Go.RowKit
open Go.Sort (swp ltInt)
set_option linter.unusedVariables false

/-- The row at (blk, off) holds the numbers d, and may be written. -/
def Row (w : World) (blk off : Nat) (d : Array Int) : Prop := ∀ j, j < d.size → w.cell? ⟨blk, off + j, none⟩ = some (.int .u64 d[j]!) ∧ w.frozen? ⟨blk, off + j, none⟩ = false

/-- All but block blk is as it was; there may be more blocks. -/
structure RK (w w' : World) (blk : Nat) : Prop where
  os : w'.os = w.os
  tape : w'.tape = w.tape
  output : w'.output = w.output
  size : w.heap.size ≤ w'.heap.size
  block : ∀ k, k < w.heap.size → k ≠ blk → w'.heap[k]? = w.heap[k]?
theorem RK.refl (w : World) (blk : Nat) : RK w w blk := ⟨rfl, rfl, rfl, Nat.le_refl _, fun _ _ _ => rfl⟩
theorem RK.trans {a b c : World} {blk : Nat} (h : RK a b blk) (k : RK b c blk) : RK a c blk :=
  ⟨k.os.trans h.os, k.tape.trans h.tape, k.output.trans h.output, Nat.le_trans h.size k.size, fun i hi hn => (k.block i (Nat.lt_of_lt_of_le hi h.size) hn).trans (h.block i hi hn)⟩
theorem RK.drewN (w : World) (blk n : Nat) : RK w (w.drewN n) blk := ⟨rfl, rfl, rfl, Nat.le_refl _, fun _ _ _ => rfl⟩
theorem RK.setCell (w : World) (blk o : Nat) (v : Value) : RK w (w.setCell ⟨blk, o, none⟩ v) blk :=
  ⟨rfl, rfl, rfl, by simp [World.setCell], fun k _ hk => Below.heap_setCell _ _ _ _ (by simpa using hk)⟩
theorem RK.below {B : Nat} {a w w' : World} {blk : Nat} (h : RK w w' blk) (hB : B ≤ blk) (hs : B ≤ w.heap.size) (hb : Below B a w) : Below B a w' :=
  hb.trans ⟨h.os, h.tape, h.output, h.size, fun k hk => h.block k (by omega) (by omega)⟩
/-- What only a block of its own was used for. -/
theorem RK.fresh {w w' : World} {o : Obj} (blk : Nat) (h : RK (w.alloc o) w' w.heap.size) : RK w w' blk :=
  ⟨h.os, h.tape, h.output, by have := h.size; simp at this; omega, fun k hk _ => (h.block k (by simp; omega) (by omega)).trans (Below.heap_alloc w o k hk)⟩

theorem Row.carry {w w' : World} {blk off p : Nat} {d : Array Int} (h : Row w blk off d) (hK : RK w w' p) (hp : blk ≠ p) : Row w' blk off d := by
  intro j hj
  have hs : blk < w.heap.size := by
    rcases Nat.lt_or_ge blk w.heap.size with q | q
    · exact q
    · have := (h j hj).1; simp [World.cell?, Array.getElem?_eq_none q] at this
  have e := hK.block blk hs hp
  refine ⟨?_, ?_⟩
  · rw [← (h j hj).1]; simp only [World.cell?, e]
  · rw [← (h j hj).2]; simp only [World.frozen?, e]

/-- A block of one number. -/
def Cnt (w : World) (p s : Nat) : Prop := w.cell? ⟨p, 0, none⟩ = some (.int .i64 s) ∧ w.frozen? ⟨p, 0, none⟩ = false

theorem Row.drewN {w : World} {blk off : Nat} {d : Array Int} (h : Row w blk off d) (n : Nat) : Row (w.drewN n) blk off d := h

theorem swp_size (d : Array Int) (i j : Nat) : (swp d i j).size = d.size := by simp [swp]
theorem swp_at (d : Array Int) (i j k : Nat) (hi : i < d.size) (hj : j < d.size) : (swp d i j)[k]! = if k = j then d[i]! else if k = i then d[j]! else d[k]! := by
  unfold swp
  by_cases h1 : k = j
  · subst h1; rw [if_pos rfl, Go.Sort.getElem!_set_same _ _ _ (by simpa using hj)]
  · rw [if_neg h1, Go.Sort.getElem!_set_other _ _ _ _ h1]
    by_cases h2 : k = i
    · subst h2; rw [if_pos rfl, Go.Sort.getElem!_set_same _ _ _ hi]
    · rw [if_neg h2, Go.Sort.getElem!_set_other _ _ _ _ h2]

theorem cell_other (w : World) (blk o o' : Nat) (v : Value) (h : o ≠ o') : (w.setCell ⟨blk, o, none⟩ v).cell? ⟨blk, o', none⟩ = w.cell? ⟨blk, o', none⟩ :=
  World.cell?_setCell_other w _ _ v (fun e => h (by simpa using congrArg Addr.off e))

/-- Two places of a row change places. -/
theorem Row.swap {w : World} {blk off : Nat} {d : Array Int} (h : Row w blk off d) (i j : Nat) (hi : i < d.size) (hj : j < d.size) :
    Row ((w.setCell ⟨blk, off + i, none⟩ (.int .u64 d[j]!)).setCell ⟨blk, off + j, none⟩ (.int .u64 d[i]!)) blk off (swp d i j) := by
  intro k hk
  rw [swp_size] at hk
  refine ⟨?_, by rw [World.frozen?_setCell, World.frozen?_setCell]; exact (h k hk).2⟩
  rw [swp_at d i j k hi hj]
  by_cases h1 : k = j
  · subst h1
    rw [if_pos rfl]
    refine World.cell?_setCell_same' _ _ _ ?_
    by_cases h2 : k = i
    · subst h2; rw [World.cell?_setCell_same' _ _ _ (by rw [(h k hk).1]; rfl)]; rfl
    · rw [cell_other _ _ _ _ _ (by omega), (h k hk).1]; rfl
  · rw [if_neg h1, cell_other _ _ _ _ _ (by omega)]
    by_cases h2 : k = i
    · subst h2; rw [if_pos rfl]; exact World.cell?_setCell_same' _ _ _ (by rw [(h k hk).1]; rfl)
    · rw [if_neg h2, cell_other _ _ _ _ _ (by omega)]; exact (h k hk).1

/-- The second place of a swap, between its two stores. -/
theorem mid_cell {wr : World} {blk off : Nat} {d : Array Int} (h : Row wr blk off d) (i j : Nat) (hi : i < d.size) (hj : j < d.size) (x : Int) (hx : x = d[j]!) :
    (wr.setCell ⟨blk, off + i, none⟩ (.int .u64 x)).cell? ⟨blk, off + j, none⟩ = some (.int .u64 x) := by
  by_cases e : i = j
  · subst e; exact World.cell?_setCell_same' _ _ _ (by rw [(h i hi).1]; rfl)
  · rw [cell_other _ _ _ _ _ (by omega), (h j hj).1, hx]

/-- A swap in a row, some draws on: the row is the swapped one, all else as it was. -/
theorem swap_step {w wr : World} {blk off : Nat} {d : Array Int} (K : RK w wr blk) (h : Row wr blk off d) (n i j : Nat) (hi : i < d.size) (hj : j < d.size) (xi xj : Int) (hxi : xi = d[i]!) (hxj : xj = d[j]!) :
    RK w (((wr.drewN n).setCell ⟨blk, off + i, none⟩ (.int .u64 xj)).setCell ⟨blk, off + j, none⟩ (.int .u64 xi)) blk ∧
    Row (((wr.drewN n).setCell ⟨blk, off + i, none⟩ (.int .u64 xj)).setCell ⟨blk, off + j, none⟩ (.int .u64 xi)) blk off (swp d i j) := by
  subst hxi hxj
  exact ⟨((K.trans (RK.drewN _ _ _)).trans (RK.setCell _ _ _ _)).trans (RK.setCell _ _ _ _), Row.swap (h.drewN n) i j hi hj⟩
theorem still_step {w wr : World} {blk off : Nat} {d : Array Int} (K : RK w wr blk) (h : Row wr blk off d) (n : Nat) : RK w (wr.drewN n) blk ∧ Row (wr.drewN n) blk off d :=
  ⟨K.trans (RK.drewN _ _ _), h.drewN n⟩
/-- What a row's cells are, by a letter of their own. -/
theorem Row.fam {w : World} {blk off : Nat} {d : Array Int} (h : Row w blk off d) (N : Nat) (hN : d.size = N) : ∃ G : Nat → Int, (∀ t, G t = d[t]!) ∧ (∀ t, t < N → w.cell? ⟨blk, off + t, none⟩ = some (.int .u64 (G t))) ∧ (∀ t, t < N → w.frozen? ⟨blk, off + t, none⟩ = false) :=
  ⟨fun t => d[t]!, fun _ => rfl, fun t ht => (h t (by omega)).1, fun t ht => (h t (by omega)).2⟩

def nat' : Value → Nat | .int _ q => q.toNat | _ => 0

theorem not_true_of {b : Bool} (h : (!b) = true) : b = false := by simpa using h
theorem not_false_of {b : Bool} (h : (!b) = false) : b = true := by simpa using h

theorem less_any (x y : Int) (w : World) :
    Calls Tryz.prog 210 #[.int .u64 x, .int .u64 y] w fun e w' => e = .returned (.bool (ltInt x y)) ∧ w' = w := by
  go_enter Tryz.func210, Tryz.ntmps210
  go_wp2
  go_ret
  exact ⟨rfl, rfl⟩
end Go.Proofs.YtmajlldfiiokoaaGreatDoor

/- slices' insertion sort at places: what it makes of a row. -/
namespace Go.Proofs.YtmajlldfiiokoaaGreatDoor
open Go.ChangeShapes Go.WideShapes Go.ChangeAt Go.RowKit
open Go.Sort (swp ltInt insInner insOuter)
set_option linter.unusedVariables false

theorem inner_on (a j : Nat) (d : Array Int) (hj : a < j) (hl : ltInt d[j]! d[j - 1]! = true) : insInner ltInt a j d = insInner ltInt a (j - 1) (swp d j (j - 1)) := by
  cases j with
  | zero => omega
  | succ k => rw [insInner]; rw [Nat.add_sub_cancel] at hl ⊢; rw [hl, if_pos (by simp; omega)]
theorem inner_off (a j : Nat) (d : Array Int) (h : ¬ a < j ∨ ltInt d[j]! d[j - 1]! = false) : insInner ltInt a j d = d := by
  cases j with
  | zero => rfl
  | succ k =>
    rw [insInner]; rw [Nat.add_sub_cancel] at h
    refine if_neg ?_
    rcases h with h | h
    · simp; intro h2; omega
    · rw [h]; simp

theorem outer_on (a b i : Nat) (d : Array Int) (h : i < b) : insOuter ltInt a b i d = insOuter ltInt a b (i + 1) (insInner ltInt a i d) := by rw [insOuter, if_pos h]

theorem ins_any (blk off cap a b : Nat) (d : Array Int) (w : World) (hR : Row w blk off d) (hab : a ≤ b) (hb : b ≤ d.size) (hsz : d.size < 4611686018427387904) :
    Calls Tryz.prog 204 #[.slice (some ⟨blk, off, none⟩) d.size cap, .int .i64 a, .int .i64 b] w fun e w' =>
      e = .returned (.tuple #[]) ∧ RK w w' blk ∧ Row w' blk off (Sort.insertionSort ltInt d a b) := by
  have HR : Hid (Row w blk off d) := hR
  clear hR
  go_enter Tryz.func204, Tryz.ntmps204
  go_wp2
  go_loopw [6] (fun vi wr => ∃ (i : Nat) (e : Array Int), vi = .int .i64 i ∧ a < i ∧ i ≤ b + 1 ∧ e.size = d.size ∧ RK w wr blk ∧ Row wr blk off e ∧
      insOuter ltInt a b i e = Sort.insertionSort ltInt d a b) (fun vi _ => b + 1 - nat' vi)
  case atStart => exact ⟨a + 1, d, by go_num, by omega, by omega, rfl, RK.refl _ _, HR.out, rfl⟩
  case round =>
    obtain ⟨i, e, rfl, hai, hib, hse, hK, hRow, hO⟩ := hrel
    have HO : Hid (insOuter ltInt a b i e = Sort.insertionSort ltInt d a b ∧ RK w wr blk ∧ Row wr blk off e) := ⟨hO, hK, hRow⟩
    clear hO hK hRow
    go_wp2
    · go_loopw [7] (fun vj wr2 => ∃ (j : Nat) (c : Array Int), vj = .int .i64 j ∧ a ≤ j ∧ j ≤ i ∧ c.size = d.size ∧ RK w wr2 blk ∧ Row wr2 blk off c ∧
          insInner ltInt a j c = insInner ltInt a i e) (fun vj _ => nat' vj)
      case atStart => exact ⟨i, e, rfl, by omega, Nat.le_refl _, hse, HO.out.2.1, HO.out.2.2, rfl⟩
      case round =>
        obtain ⟨j, c, rfl, haj, hji, hsc, hK, hRow, hI⟩ := hrel
        have hlt : i < b := by assumption
        obtain ⟨G, hG, hcell, hfro⟩ := hRow.fam d.size hsc
        have H : Hid ((∀ t, G t = c[t]!) ∧ RK w wr blk ∧ Row wr blk off c ∧ insInner ltInt a j c = insInner ltInt a i e) := ⟨hG, hK, hRow, hI⟩
        clear hG hK hRow hI
        have OUT : Hid ((¬ a < j ∨ ltInt c[j]! c[j - 1]! = false) → ∀ q, ∃ (i' : Nat) (e' : Array Int), Value.int .i64 ((i : Int) + 1) = .int .i64 i' ∧ a < i' ∧ i' ≤ b + 1 ∧ e'.size = d.size ∧ RK w (wr.drewN q) blk ∧ Row (wr.drewN q) blk off e' ∧
            insOuter ltInt a b i' e' = Sort.insertionSort ltInt d a b) := fun hs q =>
          ⟨i + 1, c, by go_num, by omega, by omega, hsc, (still_step H.out.2.1 H.out.2.2.1 q).1, (still_step H.out.2.1 H.out.2.2.1 q).2, by
            rw [← HO.out.1, outer_on _ _ _ _ hlt, ← H.out.2.2.2, inner_off _ _ _ hs]⟩
        go_wp2
        by_cases hja : a < j
        · go_quiet (first | (go_at_call 210; refine Calls.quiet_of_same (less_any _ _ _)))
          go_wp2
          · have hl : ltInt (G j) (G (j - 1)) = true := by assumption
            go_region
            all_goals go_wp2
            go_roundw
            case rel =>
              have st := swap_step H.out.2.1 H.out.2.2.1 (nq + 1) j (j - 1) (by omega) (by omega) (G j) (G (j - 1)) (H.out.1 _) (H.out.1 _)
              refine ⟨j - 1, swp c j (j - 1), by congr 1; omega, by omega, by omega, by rw [swp_size]; exact hsc, st.1, st.2, ?_⟩
              rw [← H.out.2.2.2, inner_on a j c hja (by rw [← H.out.1, ← H.out.1]; exact hl)]
            case measure => simp [nat']; omega
          · have hl : ltInt (G j) (G (j - 1)) = false := by assumption
            go_roundw
            case rel => exact OUT.out (Or.inr (by rw [← H.out.1, ← H.out.1]; exact hl)) nq
            case measure => simp [nat']; omega
        · go_quiet (first | (go_at_call 210; refine Calls.quiet_of_same (less_any _ _ _)))
          go_wp2
          go_roundw
          case rel => exact OUT.out (Or.inl hja) nq
          case measure => simp [nat']; omega
    · have hge : ¬ i < b := by assumption
      go_end0
      exact ⟨rfl, HO.out.2.1, by rw [← HO.out.1, insOuter, if_neg hge]; exact HO.out.2.2⟩
end Go.Proofs.YtmajlldfiiokoaaGreatDoor

/- slices' heap sort at places: what it makes of a row. -/
namespace Go.Proofs.YtmajlldfiiokoaaGreatDoor
open Go.ChangeShapes Go.WideShapes Go.ChangeAt Go.RowKit
open Go.Sort (swp ltInt)
set_option linter.unusedVariables false

theorem sift_end (hi first root : Nat) (d : Array Int) (h : ¬ 2 * root + 1 < hi) : Sort.siftDown ltInt hi first root d = d := by
  rw [Sort.siftDown, dif_pos (by omega)]
theorem sift_two (hi first root : Nat) (d : Array Int) (h : 2 * root + 2 < hi) (hl : ltInt d[first + (2 * root + 1)]! d[first + (2 * root + 2)]! = true) :
    Sort.siftDown ltInt hi first root d = if ltInt d[first + root]! d[first + (2 * root + 2)]! = true then Sort.siftDown ltInt hi first (2 * root + 2) (swp d (first + root) (first + (2 * root + 2))) else d := by
  rw [Sort.siftDown, dif_neg (by omega), if_pos (by rw [show first + (2 * root + 1) + 1 = first + (2 * root + 2) by omega, hl]; simp; omega), dif_pos h]
  cases ltInt d[first + root]! d[first + (2 * root + 2)]! <;> rfl
theorem sift_one (hi first root : Nat) (d : Array Int) (h : 2 * root + 1 < hi) (hl : ¬ 2 * root + 2 < hi ∨ ltInt d[first + (2 * root + 1)]! d[first + (2 * root + 2)]! = false) :
    Sort.siftDown ltInt hi first root d = if ltInt d[first + root]! d[first + (2 * root + 1)]! = true then Sort.siftDown ltInt hi first (2 * root + 1) (swp d (first + root) (first + (2 * root + 1))) else d := by
  rw [Sort.siftDown, dif_neg (by omega), if_neg]
  · cases ltInt d[first + root]! d[first + (2 * root + 1)]! <;> rfl
  · rw [show first + (2 * root + 1) + 1 = first + (2 * root + 2) by omega]
    rcases hl with h | h
    · simp; intro h2; omega
    · rw [h]; simp

theorem sift_any (blk off cap lo hi first : Nat) (d : Array Int) (w : World) (hR : Row w blk off d) (hlo : lo < 4611686018427387904) (hb : first + hi ≤ d.size) (hsz : d.size < 4611686018427387904) :
    Calls Tryz.prog 223 #[.slice (some ⟨blk, off, none⟩) d.size cap, .int .i64 lo, .int .i64 hi, .int .i64 first] w fun e w' =>
      e = .returned (.tuple #[]) ∧ RK w w' blk ∧ Row w' blk off (Sort.siftDown ltInt hi first lo d) := by
  have HR : Hid (Row w blk off d) := hR
  clear hR
  go_enter Tryz.func223, Tryz.ntmps223
  go_wp2
  go_loopw [8] (fun vi wr => ∃ (i : Nat) (e : Array Int), vi = .int .i64 i ∧ i < 4611686018427387904 ∧ e.size = d.size ∧ RK w wr blk ∧ Row wr blk off e ∧
      Sort.siftDown ltInt hi first i e = Sort.siftDown ltInt hi first lo d) (fun vi _ => hi - nat' vi)
  case atStart => exact ⟨lo, d, rfl, hlo, rfl, RK.refl _ _, HR.out, rfl⟩
  case round =>
    obtain ⟨i, e, rfl, hi62, hse, hK, hRow, hO⟩ := hrel
    obtain ⟨G, hG, hcell, hfro⟩ := hRow.fam d.size hse
    have H : Hid ((∀ t, G t = e[t]!) ∧ RK w wr blk ∧ Row wr blk off e ∧ Sort.siftDown ltInt hi first i e = Sort.siftDown ltInt hi first lo d) := ⟨hG, hK, hRow, hO⟩
    clear hG hK hRow hO
    go_wp2
    · have hge : ¬ 2 * i + 1 < hi := by omega
      go_end0
      exact ⟨rfl, H.out.2.1, by rw [← H.out.2.2.2, sift_end _ _ _ _ hge]; exact H.out.2.2.1⟩
    · have hlt : 2 * i + 1 < hi := by omega
      obtain ⟨c, hc⟩ : ∃ c : Nat, c = 2 * i + 1 := ⟨_, rfl⟩
      have hic : i < c := by omega
      have hch : c < hi := by omega
      rw [show 2 * (i : Int) + 1 = (c : Int) by omega]
      have hc62 : c < 4611686018427387904 := by omega
      have hf62 : first < 4611686018427387904 := by omega
      have HC : Hid (c = 2 * i + 1) := hc
      clear hc hlt
      have TWO : Hid (ltInt (G (first + c)) (G (first + c + 1)) = true → c + 1 < hi → Sort.siftDown ltInt hi first i e = if ltInt e[first + i]! e[first + (c + 1)]! = true then Sort.siftDown ltInt hi first (c + 1) (swp e (first + i) (first + (c + 1))) else e) := fun hl h2 => by
        have q := HC.out
        subst q
        exact sift_two hi first i e h2 (by rw [← H.out.1, ← H.out.1]; exact hl)
      have ONE : Hid (¬ c + 1 < hi ∨ ltInt (G (first + c)) (G (first + c + 1)) = false → Sort.siftDown ltInt hi first i e = if ltInt e[first + i]! e[first + c]! = true then Sort.siftDown ltInt hi first c (swp e (first + i) (first + c)) else e) := fun hl => by
        have q := HC.out
        subst q
        exact sift_one hi first i e hch (hl.imp id (fun hl => by rw [← H.out.1, ← H.out.1]; exact hl))
      by_cases h2 : (c : Int) + 1 < hi
      · go_quiet (first | (go_at_call 210; refine Calls.quiet_of_same (less_any _ _ _)))
        go_wp2
        · have hl2 : ltInt (G (first + c)) (G (first + c + 1)) = true := by assumption
          obtain ⟨g, hg⟩ : ∃ g : Nat, g = c + 1 := ⟨_, rfl⟩
          have hgh : g < hi := by omega
          have hig : i < g := by omega
          rw [show (c : Int) + 1 = (g : Int) by omega]
          have F : Hid (Sort.siftDown ltInt hi first i e = if ltInt e[first + i]! e[first + g]! = true then Sort.siftDown ltInt hi first g (swp e (first + i) (first + g)) else e) := by
            subst hg; exact TWO.out hl2 hgh
          clear hl2 hg h2
          obtain ⟨wd, hwd⟩ : ∃ wd, wd = wr.drewN nq := ⟨_, rfl⟩
          rw [← hwd]
          have HD : Hid (RK w wd blk ∧ Row wd blk off e) := by rw [hwd]; exact still_step H.out.2.1 H.out.2.2.1 nq
          replace hcell : ∀ t, t < d.size → wd.cell? ⟨blk, off + t, none⟩ = some (.int .u64 (G t)) := by rw [hwd]; exact hcell
          replace hfro : ∀ t, t < d.size → wd.frozen? ⟨blk, off + t, none⟩ = false := by rw [hwd]; exact hfro
          clear hwd
          go_quiet (first | (go_at_call 210; refine Calls.quiet_of_same (less_any _ _ _)))
          go_wp2
          · have hl : ltInt (G (first + i)) (G (first + g)) = false := not_true_of (by assumption)
            refine bodyPost_ret (results_none rfl _ _ _) rfl ?_
            exact ⟨rfl, (still_step HD.out.1 HD.out.2 _).1, by
              rw [← H.out.2.2.2, F.out, if_neg (by rw [← H.out.1, ← H.out.1, hl]; decide)]; exact (still_step HD.out.1 HD.out.2 _).2⟩
          · have hl : ltInt (G (first + i)) (G (first + g)) = true := not_false_of (by assumption)
            go_region
            all_goals go_wp2
            go_roundw
            case rel =>
              have st := swap_step HD.out.1 HD.out.2 (nq + 1) (first + i) (first + g) (by omega) (by omega) (G (first + i)) (G (first + g)) (H.out.1 _) (H.out.1 _)
              exact ⟨g, swp e (first + i) (first + g), rfl, by omega, by rw [swp_size]; exact hse, st.1, st.2, by
                rw [← H.out.2.2.2, F.out, if_pos (by rw [← H.out.1, ← H.out.1, hl])]⟩
            case measure => simp [nat']; omega
        · have hl2 : ltInt (G (first + c)) (G (first + c + 1)) = false := by assumption
          have F : Hid _ := ONE.out (Or.inr hl2)
          clear hl2
          obtain ⟨wd, hwd⟩ : ∃ wd, wd = wr.drewN nq := ⟨_, rfl⟩
          rw [← hwd]
          have HD : Hid (RK w wd blk ∧ Row wd blk off e) := by rw [hwd]; exact still_step H.out.2.1 H.out.2.2.1 nq
          replace hcell : ∀ t, t < d.size → wd.cell? ⟨blk, off + t, none⟩ = some (.int .u64 (G t)) := by rw [hwd]; exact hcell
          replace hfro : ∀ t, t < d.size → wd.frozen? ⟨blk, off + t, none⟩ = false := by rw [hwd]; exact hfro
          clear hwd
          go_quiet (first | (go_at_call 210; refine Calls.quiet_of_same (less_any _ _ _)))
          go_wp2
          · have hl : ltInt (G (first + i)) (G (first + c)) = false := not_true_of (by assumption)
            refine bodyPost_ret (results_none rfl _ _ _) rfl ?_
            exact ⟨rfl, (still_step HD.out.1 HD.out.2 _).1, by
              rw [← H.out.2.2.2, F.out, if_neg (by rw [← H.out.1, ← H.out.1, hl]; decide)]; exact (still_step HD.out.1 HD.out.2 _).2⟩
          · have hl : ltInt (G (first + i)) (G (first + c)) = true := not_false_of (by assumption)
            go_region
            all_goals go_wp2
            go_roundw
            case rel =>
              have st := swap_step HD.out.1 HD.out.2 (nq + 1) (first + i) (first + c) (by omega) (by omega) (G (first + i)) (G (first + c)) (H.out.1 _) (H.out.1 _)
              exact ⟨c, swp e (first + i) (first + c), rfl, by omega, by rw [swp_size]; exact hse, st.1, st.2, by
                rw [← H.out.2.2.2, F.out, if_pos (by rw [← H.out.1, ← H.out.1, hl])]⟩
            case measure => simp [nat']; omega
      · go_quiet (first | (go_at_call 210; refine Calls.quiet_of_same (less_any _ _ _)))
        go_wp2
        have F : Hid _ := ONE.out (Or.inl (by omega))
        obtain ⟨wd, hwd⟩ : ∃ wd, wd = wr.drewN nq := ⟨_, rfl⟩
        rw [← hwd]
        have HD : Hid (RK w wd blk ∧ Row wd blk off e) := by rw [hwd]; exact still_step H.out.2.1 H.out.2.2.1 nq
        replace hcell : ∀ t, t < d.size → wd.cell? ⟨blk, off + t, none⟩ = some (.int .u64 (G t)) := by rw [hwd]; exact hcell
        replace hfro : ∀ t, t < d.size → wd.frozen? ⟨blk, off + t, none⟩ = false := by rw [hwd]; exact hfro
        clear hwd
        go_quiet (first | (go_at_call 210; refine Calls.quiet_of_same (less_any _ _ _)))
        go_wp2
        · have hl : ltInt (G (first + i)) (G (first + c)) = false := not_true_of (by assumption)
          refine bodyPost_ret (results_none rfl _ _ _) rfl ?_
          exact ⟨rfl, (still_step HD.out.1 HD.out.2 _).1, by
            rw [← H.out.2.2.2, F.out, if_neg (by rw [← H.out.1, ← H.out.1, hl]; decide)]; exact (still_step HD.out.1 HD.out.2 _).2⟩
        · have hl : ltInt (G (first + i)) (G (first + c)) = true := not_false_of (by assumption)
          go_region
          all_goals go_wp2
          go_roundw
          case rel =>
            have st := swap_step HD.out.1 HD.out.2 (nq + 1) (first + i) (first + c) (by omega) (by omega) (G (first + i)) (G (first + c)) (H.out.1 _) (H.out.1 _)
            exact ⟨c, swp e (first + i) (first + c), rfl, by omega, by rw [swp_size]; exact hse, st.1, st.2, by
              rw [← H.out.2.2.2, F.out, if_pos (by rw [← H.out.1, ← H.out.1, hl])]⟩
          case measure => simp [nat']; omega
end Go.Proofs.YtmajlldfiiokoaaGreatDoor

/- slices' heap sort and reverseRange at places: what they make of a row. -/
namespace Go.Proofs.YtmajlldfiiokoaaGreatDoor
open Go.ChangeShapes Go.WideShapes Go.ChangeAt Go.RowKit
open Go.Sort (swp ltInt)
set_option linter.unusedVariables false

def int' : Value → Int | .int _ q => q | _ => 0

theorem siftDown_size (hi first root : Nat) (d : Array Int) : (Sort.siftDown ltInt hi first root d).size = d.size := by
  induction hn : hi - root using Nat.strongRecOn generalizing root d with
  | _ n ih =>
    subst hn
    by_cases h : 2 * root + 1 < hi
    · by_cases h2 : 2 * root + 2 < hi ∧ ltInt d[first + (2 * root + 1)]! d[first + (2 * root + 2)]! = true
      · rw [sift_two _ _ _ _ h2.1 h2.2]
        split
        · rw [ih (hi - (2 * root + 2)) (by omega) _ _ rfl, swp_size]
        · rfl
      · rw [sift_one _ _ _ _ h (by
          by_cases h3 : 2 * root + 2 < hi
          · right; cases hc : ltInt d[first + (2 * root + 1)]! d[first + (2 * root + 2)]! with
            | false => rfl
            | true => exact absurd ⟨h3, hc⟩ h2
          · exact Or.inl h3)]
        split
        · rw [ih (hi - (2 * root + 1)) (by omega) _ _ rfl, swp_size]
        · rfl
    · rw [sift_end _ _ _ _ h]

theorem heap_any (blk off cap a b : Nat) (d : Array Int) (w : World) (hR : Row w blk off d) (hab : a < b) (hb : b ≤ d.size) (hsz : d.size < 4611686018427387904) :
    Calls Tryz.prog 205 #[.slice (some ⟨blk, off, none⟩) d.size cap, .int .i64 a, .int .i64 b] w fun e w' =>
      e = .returned (.tuple #[]) ∧ RK w w' blk ∧ Row w' blk off (Sort.heapSort ltInt d a b) := by
  have HR : Hid (Row w blk off d) := hR
  clear hR
  obtain ⟨hi, hhi⟩ : ∃ hi : Nat, hi = b - a := ⟨_, rfl⟩
  obtain ⟨m, hm⟩ : ∃ m : Nat, m = (hi - 1) / 2 := ⟨_, rfl⟩
  have hhi62 : hi < 4611686018427387904 := by omega
  have hm1 : m < hi := by omega
  have hah : a + hi ≤ d.size := by omega
  go_enter Tryz.func205, Tryz.ntmps205
  go_wp2
  have e1 : (b : Int) - a = (hi : Int) := by omega
  have e2 : ((hi : Int) - 1) / 2 = (m : Int) := by omega
  simp only [e1]
  simp only [e2]
  have HH : Hid (hi = b - a ∧ m = (hi - 1) / 2) := ⟨hhi, hm⟩
  clear hhi hm e1 e2
  go_loopw [9] (fun vi wr => ∃ (k : Nat) (e : Array Int), vi = .int .i64 ((k : Int) - 1) ∧ k ≤ m + 1 ∧ e.size = d.size ∧ RK w wr blk ∧ Row wr blk off e ∧
      Sort.heapBuild ltInt hi a k e = Sort.heapBuild ltInt hi a (m + 1) d) (fun vi _ => (int' vi + 1).toNat)
  case atStart => exact ⟨m + 1, d, by congr 1; omega, by omega, rfl, RK.refl _ _, HR.out, rfl⟩
  case round =>
    obtain ⟨k, e, rfl, hkm, hse, hK, hRow, hO⟩ := hrel
    have H : Hid (RK w wr blk ∧ Row wr blk off e ∧ Sort.heapBuild ltInt hi a k e = Sort.heapBuild ltInt hi a (m + 1) d) := ⟨hK, hRow, hO⟩
    clear hK hRow hO
    by_cases hk : k = 0
    · subst hk
      go_wp2
      rw [show ((0 : Nat) : Int) - 1 = -1 from rfl]
      have HB : Hid (RK w wr blk ∧ Row wr blk off e ∧ Sort.heapPop ltInt a hi e = Sort.heapSort ltInt d a b) := ⟨H.out.1, H.out.2.1, by
        have q := H.out.2.2
        rw [Sort.heapBuild] at q
        rw [q, Sort.heapSort, ← HH.out.1, ← HH.out.2]⟩
      clear H
      go_loopw [10] (fun vi wr => ∃ (k : Nat) (c : Array Int), vi = .int .i64 ((k : Int) - 1) ∧ k ≤ hi ∧ c.size = d.size ∧ RK w wr blk ∧ Row wr blk off c ∧
          Sort.heapPop ltInt a k c = Sort.heapSort ltInt d a b) (fun vi _ => (int' vi + 1).toNat)
      case atStart => exact ⟨hi, e, rfl, Nat.le_refl _, hse, HB.out.1, HB.out.2.1, HB.out.2.2⟩
      case round =>
        obtain ⟨k, c, rfl, hkm, hsc, hK, hRow, hO⟩ := hrel
        obtain ⟨G, hG, hcell, hfro⟩ := hRow.fam d.size hsc
        have H : Hid ((∀ t, G t = c[t]!) ∧ RK w wr blk ∧ Row wr blk off c ∧ Sort.heapPop ltInt a k c = Sort.heapSort ltInt d a b) := ⟨hG, hK, hRow, hO⟩
        clear hG hK hRow hO
        by_cases hk : k = 0
        · subst hk
          go_wp2
          go_end0
          have q := H.out.2.2.2
          rw [Sort.heapPop] at q
          exact ⟨rfl, H.out.2.1, by rw [← q]; exact H.out.2.2.1⟩
        · obtain ⟨j, hj⟩ : ∃ j : Nat, k = j + 1 := ⟨k - 1, by omega⟩
          subst hj
          rw [show ((j + 1 : Nat) : Int) - 1 = (j : Int) by omega]
          have hmid := mid_cell H.out.2.2.1 a (a + j) (by omega) (by omega) (G (a + j)) (H.out.1 _)
          go_wp2
          go_region
          all_goals go_wp2_with (first
            | (go_at_call 223
               have st := swap_step H.out.2.1 H.out.2.2.1 1 a (a + j) (by omega) (by omega) (G a) (G (a + j)) (H.out.1 _) (H.out.1 _)
               have hsw : (swp c a (a + j)).size = d.size := by rw [swp_size]; exact hsc
               have q := sift_any blk off cap 0 j a (swp c a (a + j)) _ st.2 (by omega) (by omega) (by omega)
               rw [hsw] at q
               refine q.mono ?_
               rintro e' w' ⟨rfl, hK', hR'⟩))
          go_roundw
          case rel => exact ⟨j, _, rfl, by omega, by rw [siftDown_size]; exact hsw, st.1.trans hK', hR', by rw [← H.out.2.2.2, Sort.heapPop]⟩
          case measure => simp [int']
    · obtain ⟨j, hj⟩ : ∃ j : Nat, k = j + 1 := ⟨k - 1, by omega⟩
      subst hj
      rw [show ((j + 1 : Nat) : Int) - 1 = (j : Int) by omega]
      go_wp2_with (first
        | (go_at_call 223
           have q := sift_any blk off cap j hi a e _ H.out.2.1 (by omega) (by omega) (by omega)
           rw [hse] at q
           refine q.mono ?_
           rintro e' w' ⟨rfl, hK', hR'⟩))
      exact ⟨⟨j, _, rfl, by omega, by rw [siftDown_size]; exact hse, H.out.1.trans hK', hR', by rw [← H.out.2.2, Sort.heapBuild]⟩, by simp [int']⟩

theorem rev_any (blk off cap a b : Nat) (d : Array Int) (w : World) (hR : Row w blk off d) (hab : a < b) (hb : b ≤ d.size) (hsz : d.size < 4611686018427387904) :
    Calls Tryz.prog 208 #[.slice (some ⟨blk, off, none⟩) d.size cap, .int .i64 a, .int .i64 b] w fun e w' =>
      e = .returned (.tuple #[]) ∧ RK w w' blk ∧ Row w' blk off (Sort.reverseRange d a b) := by
  have HR : Hid (Row w blk off d) := hR
  clear hR
  go_enter Tryz.func208, Tryz.ntmps208
  go_wp2
  go_loopw [6, 7] (fun vi vj wr => ∃ (i j : Nat) (e : Array Int), vi = .int .i64 i ∧ vj = .int .i64 j ∧ a ≤ i ∧ j < b ∧ i < b + 1 ∧ e.size = d.size ∧ RK w wr blk ∧ Row wr blk off e ∧
      Sort.reverseLoop i j e = Sort.reverseRange d a b) (fun _ vj _ => nat' vj)
  case atStart => exact ⟨a, b - 1, d, rfl, by congr 1; omega, by omega, by omega, by omega, rfl, RK.refl _ _, HR.out, rfl⟩
  case round =>
    obtain ⟨i, j, e, rfl, rfl, hai, hjb, hib, hse, hK, hRow, hO⟩ := hrel
    obtain ⟨G, hG, hcell, hfro⟩ := hRow.fam d.size hse
    have H : Hid ((∀ t, G t = e[t]!) ∧ RK w wr blk ∧ Row wr blk off e ∧ Sort.reverseLoop i j e = Sort.reverseRange d a b) := ⟨hG, hK, hRow, hO⟩
    clear hG hK hRow hO
    go_wp2
    · have hij : i < j := by assumption
      go_region
      all_goals go_wp2
      go_roundw
      case rel =>
        have st := swap_step H.out.2.1 H.out.2.2.1 1 i j (by omega) (by omega) (G i) (G j) (H.out.1 _) (H.out.1 _)
        exact ⟨i + 1, j - 1, swp e i j, by go_num, by congr 1; omega, by omega, by omega, by omega, by rw [swp_size]; exact hse, st.1, st.2, by rw [← H.out.2.2.2, Sort.reverseLoop.eq_def i j e, if_pos hij]⟩
      case measure => simp [nat']; omega
    · have hij : ¬ i < j := by assumption
      go_end0
      exact ⟨rfl, H.out.2.1, by rw [← H.out.2.2.2, Sort.reverseLoop, if_neg hij]; exact H.out.2.2.1⟩
end Go.Proofs.YtmajlldfiiokoaaGreatDoor

/- slices' choice of a pivot at places: which place it is, and which hint. -/
namespace Go.Proofs.YtmajlldfiiokoaaGreatDoor
open Go.ChangeShapes Go.WideShapes Go.ChangeAt Go.RowKit
open Go.Sort (swp ltInt)
set_option linter.unusedVariables false

theorem Cnt.drewN {w : World} {p s : Nat} (h : Cnt w p s) (n : Nat) : Cnt (w.drewN n) p s := h
theorem Cnt.set {w : World} {p s : Nat} (h : Cnt w p s) (t : Nat) : Cnt (w.setCell ⟨p, 0, none⟩ (.int .i64 t)) p t :=
  ⟨World.cell?_setCell_same' _ _ _ (by rw [h.1]; rfl), by rw [World.frozen?_setCell]; exact h.2⟩

theorem order2_at (d : Array Int) (a b s : Nat) : Sort.order2 ltInt d a b s = if ltInt d[b]! d[a]! = true then (b, a, s + 1) else (a, b, s) := rfl

theorem order2_any (blk off cap p a b s : Nat) (d : Array Int) (w : World) (hR : Row w blk off d) (hC : Cnt w p s) (hp : blk ≠ p) (ha : a < d.size) (hb : b < d.size) (hs : s < 1000) (hsz : d.size < 4611686018427387904) :
    Calls Tryz.prog 229 #[.slice (some ⟨blk, off, none⟩) d.size cap, .int .i64 a, .int .i64 b, .pointer (some ⟨p, 0, none⟩)] w fun e w' =>
      ∃ x y t : Nat, e = .returned (.tuple #[.int .i64 x, .int .i64 y]) ∧ RK w w' p ∧ Cnt w' p t ∧ Sort.order2 ltInt d a b s = (x, y, t) ∧ x < d.size ∧ y < d.size ∧ t ≤ s + 1 := by
  obtain ⟨G, hG, hcell, hfro⟩ := hR.fam d.size rfl
  have H : Hid (∀ t, G t = d[t]!) := hG
  have hc := hC.1
  have hf := hC.2
  have HC : Hid (Cnt w p s) := hC
  clear hG hR hC
  go_enter Tryz.func229, Tryz.ntmps229
  go_wp2
  go_quiet (first | (go_at_call 210; refine Calls.quiet_of_same (less_any _ _ _)))
  go_wp2
  · have hl : ltInt (G b) (G a) = true := by assumption
    go_ret2
    refine ⟨b, a, s + 1, rfl, (RK.drewN _ _ _).trans (RK.setCell _ _ _ _), ?_, ?_, hb, ha, Nat.le_refl _⟩
    · exact (HC.out.drewN nq).set (s + 1)
    · rw [order2_at, if_pos (by rw [← H.out, ← H.out]; exact hl)]
  · have hl : ltInt (G b) (G a) = false := by assumption
    go_ret2
    exact ⟨a, b, s, rfl, RK.drewN _ _ _, HC.out.drewN nq, by rw [order2_at, if_neg (by rw [← H.out, ← H.out, hl]; decide)], ha, hb, by omega⟩

theorem median_any (blk off cap p a b c s : Nat) (d : Array Int) (w : World) (hR : Row w blk off d) (hC : Cnt w p s) (hp : blk ≠ p) (ha : a < d.size) (hb : b < d.size) (hc : c < d.size) (hs : s < 900) (hsz : d.size < 4611686018427387904) :
    Calls Tryz.prog 225 #[.slice (some ⟨blk, off, none⟩) d.size cap, .int .i64 a, .int .i64 b, .int .i64 c, .pointer (some ⟨p, 0, none⟩)] w fun e w' =>
      ∃ x t : Nat, e = .returned (.int .i64 x) ∧ RK w w' p ∧ Cnt w' p t ∧ Sort.median ltInt d a b c s = (x, t) ∧ x < d.size ∧ t ≤ s + 3 := by
  have HR : Hid (Row w blk off d ∧ Cnt w p s) := ⟨hR, hC⟩
  clear hR hC
  go_enter Tryz.func225, Tryz.ntmps225
  go_wp2_with (first
    | (go_at_call 229
       have guard := H2
       clear guard
       refine (order2_any blk off cap p x1 x2 t2 d _ H2.out.2.2.1 H2.out.2.1 hp hx1 hx2 (by omega) hsz).mono ?_
       rintro e' w3 ⟨x3, y3, t3, rfl, hK3, hC3, hE3, hx3, hy3, ht3⟩
       have H3 : Hid (RK w w3 p ∧ Cnt w3 p t3 ∧ Sort.order2 ltInt d x1 x2 t2 = (x3, y3, t3)) := ⟨H2.out.1.trans hK3, hC3, hE3⟩
       clear hK3 hC3 hE3)
    | (go_at_call 229
       have guard := H1
       clear guard
       refine (order2_any blk off cap p y1 c t1 d _ H1.out.2.2.1 H1.out.2.1 hp hy1 hc (by omega) hsz).mono ?_
       rintro e' w2 ⟨x2, y2, t2, rfl, hK2, hC2, hE2, hx2, hy2, ht2⟩
       have H2 : Hid (RK w w2 p ∧ Cnt w2 p t2 ∧ Row w2 blk off d ∧ Sort.order2 ltInt d y1 c t1 = (x2, y2, t2)) := ⟨H1.out.1.trans hK2, hC2, H1.out.2.2.1.carry hK2 hp, hE2⟩
       clear hK2 hC2 hE2)
    | (go_at_call 229
       refine (order2_any blk off cap p a b s d _ HR.out.1 HR.out.2 hp ha hb (by omega) hsz).mono ?_
       rintro e' w1 ⟨x1, y1, t1, rfl, hK1, hC1, hE1, hx1, hy1, ht1⟩
       have H1 : Hid (RK w w1 p ∧ Cnt w1 p t1 ∧ Row w1 blk off d ∧ Sort.order2 ltInt d a b s = (x1, y1, t1)) := ⟨hK1, hC1, HR.out.1.carry hK1 hp, hE1⟩
       clear hK1 hC1 hE1))
  go_ret
  exact ⟨y3, t3, rfl, H3.out.1, H3.out.2.1, by
    unfold Sort.median
    rw [H1.out.2.2.2]; dsimp only
    rw [H2.out.2.2.2]; dsimp only
    rw [H3.out.2.2], hy3, by omega⟩

theorem medadj_any (blk off cap p a s : Nat) (d : Array Int) (w : World) (hR : Row w blk off d) (hC : Cnt w p s) (hp : blk ≠ p) (ha1 : 0 < a) (ha : a + 1 < d.size) (hs : s < 900) (hsz : d.size < 4611686018427387904) :
    Calls Tryz.prog 224 #[.slice (some ⟨blk, off, none⟩) d.size cap, .int .i64 a, .pointer (some ⟨p, 0, none⟩)] w fun e w' =>
      ∃ x t : Nat, e = .returned (.int .i64 x) ∧ RK w w' p ∧ Cnt w' p t ∧ Sort.medianAdjacent ltInt d a s = (x, t) ∧ x < d.size ∧ t ≤ s + 3 := by
  have HR : Hid (Row w blk off d ∧ Cnt w p s) := ⟨hR, hC⟩
  clear hR hC
  go_enter Tryz.func224, Tryz.ntmps224
  go_wp2_with (first | (go_at_call 225
                        rw [show (a : Int) - 1 = ((a - 1 : Nat) : Int) by omega, show (a : Int) + 1 = ((a + 1 : Nat) : Int) by omega]
                        refine (median_any blk off cap p (a - 1) a (a + 1) s d _ HR.out.1 HR.out.2 hp (by omega) (by omega) ha hs hsz).mono ?_
                        rintro e' w1 ⟨x1, t1, rfl, hK1, hC1, hE1, hx1, ht1⟩))
  go_ret
  exact ⟨x1, t1, rfl, hK1, hC1, hE1, hx1, ht1⟩
end Go.Proofs.YtmajlldfiiokoaaGreatDoor

/- slices' choice of a pivot at places, whole. -/
namespace Go.Proofs.YtmajlldfiiokoaaGreatDoor
open Go.ChangeShapes Go.WideShapes Go.ChangeAt Go.RowKit
open Go.Sort (swp ltInt)
set_option linter.unusedVariables false

def hintNo : Sort.Hint → Nat | .unknown => 0 | .increasing => 1 | .decreasing => 2
def hintOf (t : Nat) : Sort.Hint := if t = 0 then .increasing else if t = 12 then .decreasing else .unknown

theorem hint_inc (t : Nat) (h : ((t : Int) == 0) = true) : hintOf t = .increasing := by
  have : t = 0 := by have := eq_of_beq h; omega
  unfold hintOf; rw [if_pos this]
theorem hint_dec (t : Nat) (h : ((t : Int) == 12) = true) : hintOf t = .decreasing := by
  have : t = 12 := by have := eq_of_beq h; omega
  subst this; rfl
theorem hint_unk (t : Nat) (h : ((t : Int) == 0) = false) (h2 : ((t : Int) == 12) = false) : hintOf t = .unknown := by
  have q := ne_of_beq_false h
  have q2 := ne_of_beq_false h2
  unfold hintOf; rw [if_neg (by omega), if_neg (by omega)]
theorem pivot_few (d : Array Int) (a b x t : Nat) (h8 : 8 ≤ b - a) (h50 : ¬ 50 ≤ b - a) (hm : Sort.median ltInt d (a + (b - a) / 4 * 1) (a + (b - a) / 4 * 2) (a + (b - a) / 4 * 3) 0 = (x, t)) :
    Sort.choosePivot ltInt d a b = (x, hintOf t) := by
  unfold Sort.choosePivot
  dsimp only
  rw [if_pos h8, if_neg h50, hm]; rfl
theorem pivot_many (d : Array Int) (a b x1 t1 x2 t2 x3 t3 x t : Nat) (h50 : 50 ≤ b - a) (hm1 : Sort.medianAdjacent ltInt d (a + (b - a) / 4 * 1) 0 = (x1, t1)) (hm2 : Sort.medianAdjacent ltInt d (a + (b - a) / 4 * 2) t1 = (x2, t2))
    (hm3 : Sort.medianAdjacent ltInt d (a + (b - a) / 4 * 3) t2 = (x3, t3)) (hm : Sort.median ltInt d x1 x2 x3 t3 = (x, t)) :
    Sort.choosePivot ltInt d a b = (x, hintOf t) := by
  unfold Sort.choosePivot
  dsimp only
  rw [if_pos (by omega), if_pos h50, hm1]; dsimp only
  rw [hm2]; dsimp only
  rw [hm3]; dsimp only
  rw [hm]; rfl

theorem Row.alloc {w : World} {blk off : Nat} {d : Array Int} (h : Row w blk off d) (o : Obj) : Row (w.alloc o) blk off d := by
  intro j hj
  have hs : blk < w.heap.size := by
    rcases Nat.lt_or_ge blk w.heap.size with q | q
    · exact q
    · have := (h j hj).1; simp [World.cell?, Array.getElem?_eq_none q] at this
  have e : (w.alloc o).heap[blk]? = w.heap[blk]? := Below.heap_alloc w o blk hs
  refine ⟨?_, ?_⟩
  · rw [← (h j hj).1]; simp only [World.cell?, e]
  · rw [← (h j hj).2]; simp only [World.frozen?, e]
theorem cnt_new (w : World) (s : Nat) (t : TypeId) : Cnt (w.alloc (.cells #[.int .i64 s] t)) w.heap.size s :=
  ⟨by simp [World.cell?_alloc_new], by simp [World.frozen?_alloc_new]⟩

theorem pivot_any (blk off cap a b : Nat) (d : Array Int) (w : World) (hR : Row w blk off d) (hab : a + 12 < b) (hb : b ≤ d.size) (hblk : blk < w.heap.size) (hsz : d.size < 4611686018427387904) :
    Calls Tryz.prog 207 #[.slice (some ⟨blk, off, none⟩) d.size cap, .int .i64 a, .int .i64 b] w fun e w' =>
      e = .returned (.tuple #[.int .i64 (Sort.choosePivot ltInt d a b).1, .int .i64 (hintNo (Sort.choosePivot ltInt d a b).2)]) ∧ RK w w' blk ∧ Row w' blk off d := by
  have HR : Hid (Row w blk off d) := hR
  clear hR
  have hp : blk ≠ w.heap.size := by omega
  obtain ⟨i0, hi0⟩ : ∃ i0 : Nat, i0 = a + (b - a) / 4 * 1 := ⟨_, rfl⟩
  obtain ⟨j0, hj0⟩ : ∃ j0 : Nat, j0 = a + (b - a) / 4 * 2 := ⟨_, rfl⟩
  obtain ⟨k0, hk0⟩ : ∃ k0 : Nat, k0 = a + (b - a) / 4 * 3 := ⟨_, rfl⟩
  have bi : 0 < i0 ∧ i0 + 1 < d.size := by omega
  have bj : 0 < j0 ∧ j0 + 1 < d.size := by omega
  have bk : 0 < k0 ∧ k0 + 1 < d.size := by omega
  obtain ⟨bi1, bi2⟩ := bi
  obtain ⟨bj1, bj2⟩ := bj
  obtain ⟨bk1, bk2⟩ := bk
  have HI : Hid (i0 = a + (b - a) / 4 * 1 ∧ j0 = a + (b - a) / 4 * 2 ∧ k0 = a + (b - a) / 4 * 3) := ⟨hi0, hj0, hk0⟩
  clear hi0 hj0 hk0
  by_cases h50 : (50 : Int) ≤ (b : Int) - a
  · go_enter Tryz.func207, Tryz.ntmps207
    go_wp2_with (fail)
    · have q := HI.out
      rw [show (a : Int) + ((b : Int) - a) / 4 = (i0 : Int) by omega, show (a : Int) + ((b : Int) - a) / 4 * 2 = (j0 : Int) by omega, show (a : Int) + ((b : Int) - a) / 4 * 3 = (k0 : Int) by omega]
      clear q
      go_wp2_with (first
        | (go_at_call 225
           refine (median_any blk off cap w.heap.size x1 x2 x3 t3 d _ H3.out.2.2.1 H3.out.2.1 hp hx1 hx2 hx3 (by omega) hsz).mono ?_
           rintro e' w4 ⟨x, t, rfl, hK4, hC4, hE4, hx4, ht4⟩
           have H4 : Hid (RK (w.alloc (.cells #[.int .i64 0] 3)) w4 w.heap.size ∧ Row w4 blk off d ∧ Sort.median ltInt d x1 x2 x3 t3 = (x, t)) := ⟨H3.out.1.trans hK4, H3.out.2.2.1.carry hK4 hp, hE4⟩
           have hc4 : w4.cell? ⟨w.heap.size, 0, none⟩ = some (.int .i64 t) := hC4.1
           clear hK4 hC4 hE4)
        | (go_at_call 224
           have guard := H2
           clear guard
           refine (medadj_any blk off cap w.heap.size k0 t2 d _ H2.out.2.2.1 H2.out.2.1 hp bk1 bk2 (by omega) hsz).mono ?_
           rintro e' w3 ⟨x3, t3, rfl, hK3, hC3, hE3, hx3, ht3⟩
           have H3 : Hid (RK (w.alloc (.cells #[.int .i64 0] 3)) w3 w.heap.size ∧ Cnt w3 w.heap.size t3 ∧ Row w3 blk off d ∧ Sort.medianAdjacent ltInt d k0 t2 = (x3, t3)) := ⟨H2.out.1.trans hK3, hC3, H2.out.2.2.1.carry hK3 hp, hE3⟩
           clear hK3 hC3 hE3)
        | (go_at_call 224
           have guard := H1
           clear guard
           refine (medadj_any blk off cap w.heap.size j0 t1 d _ H1.out.2.2.1 H1.out.2.1 hp bj1 bj2 (by omega) hsz).mono ?_
           rintro e' w2 ⟨x2, t2, rfl, hK2, hC2, hE2, hx2, ht2⟩
           have H2 : Hid (RK (w.alloc (.cells #[.int .i64 0] 3)) w2 w.heap.size ∧ Cnt w2 w.heap.size t2 ∧ Row w2 blk off d ∧ Sort.medianAdjacent ltInt d j0 t1 = (x2, t2)) := ⟨H1.out.1.trans hK2, hC2, H1.out.2.2.1.carry hK2 hp, hE2⟩
           clear hK2 hC2 hE2)
        | (go_at_call 224
           refine (medadj_any blk off cap w.heap.size i0 0 d _ (HR.out.alloc _) (cnt_new w 0 3) hp bi1 bi2 (by omega) hsz).mono ?_
           rintro e' w1 ⟨x1, t1, rfl, hK1, hC1, hE1, hx1, ht1⟩
           have H1 : Hid (RK (w.alloc (.cells #[.int .i64 0] 3)) w1 w.heap.size ∧ Cnt w1 w.heap.size t1 ∧ Row w1 blk off d ∧ Sort.medianAdjacent ltInt d i0 0 = (x1, t1)) := ⟨hK1, hC1, (HR.out.alloc _).carry hK1 hp, hE1⟩
           clear hK1 hC1 hE1))
      all_goals
        have E : Hid (Sort.choosePivot ltInt d a b = (x, hintOf t)) := by
          have q := HI.out
          have g1 := H1.out.2.2.2
          have g2 := H2.out.2.2.2
          have g3 := H3.out.2.2.2
          rw [q.1] at g1; rw [q.2.1] at g2; rw [q.2.2] at g3
          exact pivot_many d a b x1 t1 x2 t2 x3 t3 x t (by omega) g1 g2 g3 H4.out.2.2
        go_ret2
        rw [E.out]
        refine ⟨?_, H4.out.1.fresh _, H4.out.2.1⟩
        first
          | (rw [hint_inc t (by assumption)]; rfl)
          | (rw [hint_dec t (by assumption)]; rfl)
          | (rw [hint_unk t (by assumption) (by assumption)]; rfl)
  · go_enter Tryz.func207, Tryz.ntmps207
    go_wp2_with (fail)
    · have q := HI.out
      rw [show (a : Int) + ((b : Int) - a) / 4 = (i0 : Int) by omega, show (a : Int) + ((b : Int) - a) / 4 * 2 = (j0 : Int) by omega, show (a : Int) + ((b : Int) - a) / 4 * 3 = (k0 : Int) by omega]
      clear q
      go_wp2_with (first
        | (go_at_call 225
           refine (median_any blk off cap w.heap.size i0 j0 k0 0 d _ (HR.out.alloc _) (cnt_new w 0 3) hp (by omega) (by omega) (by omega) (by omega) hsz).mono ?_
           rintro e' w4 ⟨x, t, rfl, hK4, hC4, hE4, hx4, ht4⟩
           have H4 : Hid (RK (w.alloc (.cells #[.int .i64 0] 3)) w4 w.heap.size ∧ Row w4 blk off d ∧ Sort.median ltInt d i0 j0 k0 0 = (x, t)) := ⟨hK4, (HR.out.alloc _).carry hK4 hp, hE4⟩
           have hc4 : w4.cell? ⟨w.heap.size, 0, none⟩ = some (.int .i64 t) := hC4.1
           clear hK4 hC4 hE4))
      all_goals
        have E : Hid (Sort.choosePivot ltInt d a b = (x, hintOf t)) := by
          have q := HI.out
          have g := H4.out.2.2
          rw [q.1, q.2.1, q.2.2] at g
          exact pivot_few d a b x t (by omega) (by omega) g
        go_ret2
        rw [E.out]
        refine ⟨?_, H4.out.1.fresh _, H4.out.2.1⟩
        first
          | (rw [hint_inc t (by assumption)]; rfl)
          | (rw [hint_dec t (by assumption)]; rfl)
          | (rw [hint_unk t (by assumption) (by assumption)]; rfl)
end Go.Proofs.YtmajlldfiiokoaaGreatDoor

/- slices' partitionEqual at places: what it makes of a row. -/
namespace Go.Proofs.YtmajlldfiiokoaaGreatDoor
open Go.ChangeShapes Go.WideShapes Go.ChangeAt Go.RowKit
open Go.Sort (swp ltInt scanUp scanDown)
set_option linter.unusedVariables false

theorem up_on (p : Int → Bool) (d : Array Int) (j i : Nat) (h : i ≤ j) (hp : p d[i]! = true) : scanUp p d j i = scanUp p d j (i + 1) := by
  rw [scanUp, if_pos (by rw [hp]; simpa using h)]
theorem up_off (p : Int → Bool) (d : Array Int) (j i : Nat) (h : ¬ i ≤ j ∨ p d[i]! = false) : scanUp p d j i = i := by
  rw [scanUp, if_neg]
  rcases h with h | h
  · simp; intro q; omega
  · rw [h]; simp
theorem down_on (p : Int → Bool) (d : Array Int) (i j : Nat) (hi : 0 < i) (h : i ≤ j) (hp : p d[j]! = true) : scanDown p d i j = scanDown p d i (j - 1) := by
  cases j with
  | zero => omega
  | succ k => rw [scanDown, if_pos (by rw [hp]; simpa using h), Nat.add_sub_cancel]
theorem down_off (p : Int → Bool) (d : Array Int) (i j : Nat) (h : ¬ i ≤ j ∨ p d[j]! = false) : scanDown p d i j = j := by
  cases j with
  | zero => rfl
  | succ k =>
    rw [scanDown, if_neg]
    rcases h with h | h
    · simp; intro q; omega
    · rw [h]; simp

theorem parteq_unf (a i j : Nat) (e : Array Int) (i2 j2 : Nat) (hu : scanUp (fun x => !ltInt e[a]! x) e j i = i2) (hd : scanDown (fun x => ltInt e[a]! x) e i2 j = j2) :
    Sort.partEqLoop ltInt a i j e = if j2 < i2 then (i2, e) else if h : (j2 - 1) + 1 - (i2 + 1) < j + 1 - i then Sort.partEqLoop ltInt a (i2 + 1) (j2 - 1) (swp e i2 j2) else (i2, e) := by
  rw [Sort.partEqLoop]
  subst hu
  subst hd
  rfl

theorem parteq_any (blk off cap a b pv : Nat) (d : Array Int) (w : World) (hR : Row w blk off d) (ha : a ≤ pv) (hpb : pv < b) (hb : b ≤ d.size) (hsz : d.size < 4611686018427387904) :
    Calls Tryz.prog 211 #[.slice (some ⟨blk, off, none⟩) d.size cap, .int .i64 a, .int .i64 b, .int .i64 pv] w fun e w' =>
      e = .returned (.int .i64 (Sort.partitionEqual ltInt d a b pv).1) ∧ RK w w' blk ∧ Row w' blk off (Sort.partitionEqual ltInt d a b pv).2 := by
  obtain ⟨G, hG, hcell, hfro⟩ := hR.fam d.size rfl
  have hmid := mid_cell hR a pv (by omega) (by omega) (G pv) (hG _)
  have H0 : Hid ((∀ t, G t = d[t]!) ∧ Row w blk off d) := ⟨hG, hR⟩
  clear hG hR
  go_enter Tryz.func211, Tryz.ntmps211
  go_wp2
  go_region
  all_goals go_wp2_with (fail)
  clear hmid hcell hfro
  go_loopg [9, 10] (b - a) (fun k vi vj wr => ∃ (i j : Nat) (e : Array Int), vi = .int .i64 i ∧ vj = .int .i64 j ∧ a < i ∧ i ≤ j + 2 ∧ j < b ∧ j + 1 - i ≤ k ∧ e.size = d.size ∧ RK w wr blk ∧ Row wr blk off e ∧
      Sort.partEqLoop ltInt a i j e = Sort.partitionEqual ltInt d a b pv)
  case atStart =>
    have st := swap_step (RK.refl w blk) H0.out.2 1 a pv (by omega) (by omega) (G a) (G pv) (H0.out.1 _) (H0.out.1 _)
    exact ⟨a + 1, b - 1, swp d a pv, by go_num, by congr 1; omega, by omega, by omega, by omega, by omega, by rw [swp_size], st.1, st.2, rfl⟩
  case round =>
    clear H0
    obtain ⟨i, j, e, rfl, rfl, hai, hij, hjb, hgk, hse, hK, hRow, hO⟩ := hrel
    have H : Hid (RK w wr blk ∧ Row wr blk off e ∧ Sort.partEqLoop ltInt a i j e = Sort.partitionEqual ltInt d a b pv) := ⟨hK, hRow, hO⟩
    clear hK hRow hO
    go_upto_block 2 with fail
    go_cut [9] from 29 to 82 (fun v9 wc => ∃ i2 : Nat, v9 = .int .i64 i2 ∧ i ≤ i2 ∧ i2 ≤ j + 2 ∧ RK w wc blk ∧ Row wc blk off e ∧ scanUp (fun x => !ltInt e[a]! x) e j i = i2)
    case first =>
      go_wp2_with fail
      go_loopg [9] (j + 1 - i) (fun k vi wr => ∃ i2 : Nat, vi = .int .i64 i2 ∧ i ≤ i2 ∧ i2 ≤ j + 2 ∧ j + 1 - i2 ≤ k ∧ RK w wr blk ∧ Row wr blk off e ∧ scanUp (fun x => !ltInt e[a]! x) e j i = scanUp (fun x => !ltInt e[a]! x) e j i2)
      case atStart => exact ⟨i, rfl, Nat.le_refl _, hij, Nat.le_refl _, H.out.1, H.out.2.1, rfl⟩
      case round =>
        obtain ⟨i2, rfl, hii, hi2, hk2, hK, hRow, hS⟩ := hrel
        obtain ⟨G, hG, hcell, hfro⟩ := hRow.fam d.size hse
        have HS : Hid ((∀ t, G t = e[t]!) ∧ RK w wr blk ∧ Row wr blk off e ∧ scanUp (fun x => !ltInt e[a]! x) e j i = scanUp (fun x => !ltInt e[a]! x) e j i2) := ⟨hG, hK, hRow, hS⟩
        clear hG hK hRow hS
        go_wp2
        by_cases hc : i2 ≤ j
        · go_quiet (first | (go_at_call 210; refine Calls.quiet_of_same (less_any _ _ _)))
          go_wp2
          · have hl : (!ltInt (G a) (G i2)) = true := by assumption
            go_roundg (j - i2)
            case measure => omega
            case rel =>
              have st := still_step HS.out.2.1 HS.out.2.2.1 nq
              exact ⟨i2 + 1, by go_num, by omega, by omega, by omega, st.1, st.2, by
                rw [HS.out.2.2.2, up_on _ _ _ _ hc (by rw [← HS.out.1, ← HS.out.1]; exact hl)]⟩
          · have hl : (!ltInt (G a) (G i2)) = false := by assumption
            go_meet
            case rel =>
              have st := still_step HS.out.2.1 HS.out.2.2.1 nq
              exact ⟨i2, rfl, hii, hi2, st.1, st.2, by rw [HS.out.2.2.2, up_off _ _ _ _ (Or.inr (by rw [← HS.out.1, ← HS.out.1]; exact hl))]⟩
        · go_quiet (first | (go_at_call 210; refine Calls.quiet_of_same (less_any _ _ _)))
          go_wp2
          go_meet
          case rel =>
            have st := still_step HS.out.2.1 HS.out.2.2.1 nq
            exact ⟨i2, rfl, hii, hi2, st.1, st.2, by rw [HS.out.2.2.2, up_off _ _ _ _ (Or.inl hc)]⟩
    case rest =>
      obtain ⟨i2, rfl, hii, hi2, hK, hRow, hS⟩ := hcut
      have HU : Hid (RK w wc blk ∧ Row wc blk off e ∧ scanUp (fun x => !ltInt e[a]! x) e j i = i2) := ⟨hK, hRow, hS⟩
      clear hK hRow hS
      go_upto_block 4 with fail
      go_cut [10] from 29 to 82 (fun v10 wc => ∃ j2 : Nat, v10 = .int .i64 j2 ∧ j2 ≤ j ∧ i2 ≤ j2 + 2 ∧ RK w wc blk ∧ Row wc blk off e ∧ scanDown (fun x => ltInt e[a]! x) e i2 j = j2)
      case first =>
        go_wp2_with fail
        go_loopg [10] (j + 1 - i2) (fun k vj wr => ∃ j2 : Nat, vj = .int .i64 j2 ∧ j2 ≤ j ∧ i2 ≤ j2 + 2 ∧ j2 + 1 - i2 ≤ k ∧ RK w wr blk ∧ Row wr blk off e ∧ scanDown (fun x => ltInt e[a]! x) e i2 j = scanDown (fun x => ltInt e[a]! x) e i2 j2)
        case atStart => exact ⟨j, rfl, Nat.le_refl _, hi2, Nat.le_refl _, HU.out.1, HU.out.2.1, rfl⟩
        case round =>
          obtain ⟨j2, rfl, hjj, hj2, hk2, hK, hRow, hS⟩ := hrel
          obtain ⟨G, hG, hcell, hfro⟩ := hRow.fam d.size hse
          have HS : Hid ((∀ t, G t = e[t]!) ∧ RK w wr blk ∧ Row wr blk off e ∧ scanDown (fun x => ltInt e[a]! x) e i2 j = scanDown (fun x => ltInt e[a]! x) e i2 j2) := ⟨hG, hK, hRow, hS⟩
          clear hG hK hRow hS
          go_wp2
          by_cases hc : i2 ≤ j2
          · go_quiet (first | (go_at_call 210; refine Calls.quiet_of_same (less_any _ _ _)))
            go_wp2
            · have hl : ltInt (G a) (G j2) = true := by assumption
              go_roundg (j2 - i2)
              case measure => omega
              case rel =>
                have st := still_step HS.out.2.1 HS.out.2.2.1 nq
                exact ⟨j2 - 1, by congr 1; omega, by omega, by omega, by omega, st.1, st.2, by
                  rw [HS.out.2.2.2, down_on _ _ _ _ (by omega) hc (by rw [← HS.out.1, ← HS.out.1]; exact hl)]⟩
            · have hl : ltInt (G a) (G j2) = false := by assumption
              go_meet
              case rel =>
                have st := still_step HS.out.2.1 HS.out.2.2.1 nq
                exact ⟨j2, rfl, hjj, hj2, st.1, st.2, by rw [HS.out.2.2.2, down_off _ _ _ _ (Or.inr (by rw [← HS.out.1, ← HS.out.1]; exact hl))]⟩
          · go_quiet (first | (go_at_call 210; refine Calls.quiet_of_same (less_any _ _ _)))
            go_wp2
            go_meet
            case rel =>
              have st := still_step HS.out.2.1 HS.out.2.2.1 nq
              exact ⟨j2, rfl, hjj, hj2, st.1, st.2, by rw [HS.out.2.2.2, down_off _ _ _ _ (Or.inl hc)]⟩
      case rest =>
        obtain ⟨j2, rfl, hjj, hj2, hK, hRow, hS⟩ := hcut
        obtain ⟨G, hG, hcell, hfro⟩ := hRow.fam d.size hse
        have HD : Hid ((∀ t, G t = e[t]!) ∧ RK w wc blk ∧ Row wc blk off e ∧ scanDown (fun x => ltInt e[a]! x) e i2 j = j2) := ⟨hG, hK, hRow, hS⟩
        clear hG hK hRow hS
        go_wp2
        · have hgt : j2 < i2 := by assumption
          go_ret
          have q : Sort.partEqLoop ltInt a i j e = (i2, e) := by rw [parteq_unf a i j e i2 j2 HU.out.2.2 HD.out.2.2.2, if_pos hgt]
          rw [← H.out.2.2, q]
          exact ⟨rfl, HD.out.2.1, HD.out.2.2.1⟩
        · have hle : ¬ j2 < i2 := by omega
          have hmid := mid_cell HD.out.2.2.1 i2 j2 (by omega) (by omega) (G j2) (HD.out.1 _)
          go_region
          all_goals go_wp2
          go_roundg (j2 - i2)
          case measure => omega
          case rel =>
            have st := swap_step HD.out.2.1 HD.out.2.2.1 1 i2 j2 (by omega) (by omega) (G i2) (G j2) (HD.out.1 _) (HD.out.1 _)
            exact ⟨i2 + 1, j2 - 1, swp e i2 j2, by go_num, by congr 1; omega, by omega, by omega, by omega, by omega, by rw [swp_size]; exact hse, st.1, st.2, by
              rw [← H.out.2.2, parteq_unf a i j e i2 j2 HU.out.2.2 HD.out.2.2.2, if_neg hle, dif_pos (by omega)]⟩
end Go.Proofs.YtmajlldfiiokoaaGreatDoor

/- slices' partition at places: what it makes of a row. -/
namespace Go.Proofs.YtmajlldfiiokoaaGreatDoor
open Go.ChangeShapes Go.WideShapes Go.ChangeAt Go.RowKit
open Go.Sort (swp ltInt scanUp scanDown)
set_option linter.unusedVariables false

theorem part_unf (a i j : Nat) (e : Array Int) (i2 j2 : Nat) (hu : scanUp (fun x => ltInt x e[a]!) e j i = i2) (hd : scanDown (fun x => !ltInt x e[a]!) e i2 j = j2) :
    Sort.partLoop ltInt a i j e = if j2 < i2 then (j2, e) else if h : (j2 - 1) + 1 - (i2 + 1) < j + 1 - i then Sort.partLoop ltInt a (i2 + 1) (j2 - 1) (swp e i2 j2) else (j2, e) := by
  rw [Sort.partLoop]
  subst hu
  subst hd
  rfl
theorem part_top (d : Array Int) (a b pv i2 j2 : Nat) (hu : scanUp (fun x => ltInt x (swp d a pv)[a]!) (swp d a pv) (b - 1) (a + 1) = i2) (hd : scanDown (fun x => !ltInt x (swp d a pv)[a]!) (swp d a pv) i2 (b - 1) = j2) :
    Sort.partition ltInt d a b pv = if j2 < i2 then (j2, true, swp (swp d a pv) j2 a) else
      ((Sort.partLoop ltInt a (i2 + 1) (j2 - 1) (swp (swp d a pv) i2 j2)).1, false, swp (Sort.partLoop ltInt a (i2 + 1) (j2 - 1) (swp (swp d a pv) i2 j2)).2 (Sort.partLoop ltInt a (i2 + 1) (j2 - 1) (swp (swp d a pv) i2 j2)).1 a) := by
  subst hu
  subst hd
  rfl

set_option maxHeartbeats 1000000 in
set_option maxRecDepth 100000 in
theorem part_any (blk off cap a b pv : Nat) (d : Array Int) (w : World) (hR : Row w blk off d) (ha : a ≤ pv) (hpb : pv < b) (hb : b ≤ d.size) (hsz : d.size < 4611686018427387904) :
    Calls Tryz.prog 212 #[.slice (some ⟨blk, off, none⟩) d.size cap, .int .i64 a, .int .i64 b, .int .i64 pv] w fun e w' =>
      e = .returned (.tuple #[.int .i64 (Sort.partition ltInt d a b pv).1, .bool (Sort.partition ltInt d a b pv).2.1]) ∧ RK w w' blk ∧ Row w' blk off (Sort.partition ltInt d a b pv).2.2 := by
  obtain ⟨G0, hG, hcell, hfro⟩ := hR.fam d.size rfl
  have hmid := mid_cell hR a pv (by omega) (by omega) (G0 pv) (hG _)
  have H0 : Hid ((∀ t, G0 t = d[t]!) ∧ Row w blk off d) := ⟨hG, hR⟩
  clear hG hR
  obtain ⟨i, hi⟩ : ∃ i, i = a + 1 := ⟨_, rfl⟩
  obtain ⟨j, hj⟩ : ∃ j, j = b - 1 := ⟨_, rfl⟩
  obtain ⟨e, he⟩ : ∃ e, e = swp d a pv := ⟨_, rfl⟩
  have hai : a < i := by omega
  have hij : i ≤ j + 2 := by omega
  have hjb : j < b := by omega
  have hse : e.size = d.size := by rw [he, swp_size]
  have HI : Hid (i = a + 1 ∧ j = b - 1 ∧ e = swp d a pv) := ⟨hi, hj, he⟩
  clear hi hj he
  go_enter Tryz.func212, Tryz.ntmps212
  go_upto_region 1 with fail
  go_region
  all_goals go_upto_block 0 with fail
  clear hmid hcell hfro
  have q := HI.out
  rw [show (a : Int) + 1 = (i : Int) by omega, show (b : Int) - 1 = (j : Int) by omega]
  clear q
  have st0 := swap_step (RK.refl w blk) H0.out.2 1 a pv (by omega) (by omega) (G0 a) (G0 pv) (H0.out.1 _) (H0.out.1 _)
  rw [← HI.out.2.2] at st0
  have HX : Hid _ := st0
  clear st0
  have H : Hid (True ∧ True ∧ i = a + 1 ∧ j = b - 1 ∧ e = swp d a pv) := ⟨trivial, trivial, HI.out⟩
  go_upto_block 0 with fail
  go_cut [10] from 12 (fun v9 wc => ∃ i2 : Nat, v9 = .int .i64 i2 ∧ i ≤ i2 ∧ i2 ≤ j + 2 ∧ RK w wc blk ∧ Row wc blk off e ∧ scanUp (fun x => ltInt x e[a]!) e j i = i2)
  case first =>
    go_wp2_with fail
    go_loopg [10] (j + 1 - i) (fun k vi wr => ∃ i2 : Nat, vi = .int .i64 i2 ∧ i ≤ i2 ∧ i2 ≤ j + 2 ∧ j + 1 - i2 ≤ k ∧ RK w wr blk ∧ Row wr blk off e ∧ scanUp (fun x => ltInt x e[a]!) e j i = scanUp (fun x => ltInt x e[a]!) e j i2)
    case atStart => exact ⟨i, rfl, Nat.le_refl _, hij, Nat.le_refl _, HX.out.1, HX.out.2, rfl⟩
    case round =>
      obtain ⟨i2, rfl, hii, hi2, hk2, hK, hRow, hS⟩ := hrel
      obtain ⟨G, hG, hcell, hfro⟩ := hRow.fam d.size hse
      have HS : Hid ((∀ t, G t = e[t]!) ∧ RK w wr blk ∧ Row wr blk off e ∧ scanUp (fun x => ltInt x e[a]!) e j i = scanUp (fun x => ltInt x e[a]!) e j i2) := ⟨hG, hK, hRow, hS⟩
      clear hG hK hRow hS
      go_wp2
      by_cases hc : i2 ≤ j
      · go_quiet (first | (go_at_call 210; refine Calls.quiet_of_same (less_any _ _ _)))
        go_wp2
        · have hl : ltInt (G i2) (G a) = true := by assumption
          go_roundg (j - i2)
          case measure => omega
          case rel =>
            have st := still_step HS.out.2.1 HS.out.2.2.1 nq
            exact ⟨i2 + 1, by go_num, by omega, by omega, by omega, st.1, st.2, by
              rw [HS.out.2.2.2, up_on _ _ _ _ hc (by rw [← HS.out.1, ← HS.out.1]; exact hl)]⟩
        · have hl : ltInt (G i2) (G a) = false := by assumption
          go_meet
          case rel =>
            have st := still_step HS.out.2.1 HS.out.2.2.1 nq
            exact ⟨i2, rfl, hii, hi2, st.1, st.2, by rw [HS.out.2.2.2, up_off _ _ _ _ (Or.inr (by rw [← HS.out.1, ← HS.out.1]; exact hl))]⟩
      · go_quiet (first | (go_at_call 210; refine Calls.quiet_of_same (less_any _ _ _)))
        go_wp2
        go_meet
        case rel =>
          have st := still_step HS.out.2.1 HS.out.2.2.1 nq
          exact ⟨i2, rfl, hii, hi2, st.1, st.2, by rw [HS.out.2.2.2, up_off _ _ _ _ (Or.inl hc)]⟩
  case rest =>
    obtain ⟨i2, rfl, hii, hi2, hK, hRow, hS⟩ := hcut
    have HU : Hid (RK w wc blk ∧ Row wc blk off e ∧ scanUp (fun x => ltInt x e[a]!) e j i = i2) := ⟨hK, hRow, hS⟩
    clear hK hRow hS
    go_upto_block 2 with fail
    go_cut [11] from 12 (fun v10 wc => ∃ j2 : Nat, v10 = .int .i64 j2 ∧ j2 ≤ j ∧ i2 ≤ j2 + 2 ∧ RK w wc blk ∧ Row wc blk off e ∧ scanDown (fun x => !ltInt x e[a]!) e i2 j = j2)
    case first =>
      go_wp2_with fail
      go_loopg [11] (j + 1 - i2) (fun k vj wr => ∃ j2 : Nat, vj = .int .i64 j2 ∧ j2 ≤ j ∧ i2 ≤ j2 + 2 ∧ j2 + 1 - i2 ≤ k ∧ RK w wr blk ∧ Row wr blk off e ∧ scanDown (fun x => !ltInt x e[a]!) e i2 j = scanDown (fun x => !ltInt x e[a]!) e i2 j2)
      case atStart => exact ⟨j, rfl, Nat.le_refl _, hi2, Nat.le_refl _, HU.out.1, HU.out.2.1, rfl⟩
      case round =>
        obtain ⟨j2, rfl, hjj, hj2, hk2, hK, hRow, hS⟩ := hrel
        obtain ⟨G, hG, hcell, hfro⟩ := hRow.fam d.size hse
        have HS : Hid ((∀ t, G t = e[t]!) ∧ RK w wr blk ∧ Row wr blk off e ∧ scanDown (fun x => !ltInt x e[a]!) e i2 j = scanDown (fun x => !ltInt x e[a]!) e i2 j2) := ⟨hG, hK, hRow, hS⟩
        clear hG hK hRow hS
        go_wp2
        by_cases hc : i2 ≤ j2
        · go_quiet (first | (go_at_call 210; refine Calls.quiet_of_same (less_any _ _ _)))
          go_wp2
          · have hl : (!ltInt (G j2) (G a)) = true := by assumption
            go_roundg (j2 - i2)
            case measure => omega
            case rel =>
              have st := still_step HS.out.2.1 HS.out.2.2.1 nq
              exact ⟨j2 - 1, by congr 1; omega, by omega, by omega, by omega, st.1, st.2, by
                rw [HS.out.2.2.2, down_on _ _ _ _ (by omega) hc (by rw [← HS.out.1, ← HS.out.1]; exact hl)]⟩
          · have hl : (!ltInt (G j2) (G a)) = false := by assumption
            go_meet
            case rel =>
              have st := still_step HS.out.2.1 HS.out.2.2.1 nq
              exact ⟨j2, rfl, hjj, hj2, st.1, st.2, by rw [HS.out.2.2.2, down_off _ _ _ _ (Or.inr (by rw [← HS.out.1, ← HS.out.1]; exact hl))]⟩
        · go_quiet (first | (go_at_call 210; refine Calls.quiet_of_same (less_any _ _ _)))
          go_wp2
          go_meet
          case rel =>
            have st := still_step HS.out.2.1 HS.out.2.2.1 nq
            exact ⟨j2, rfl, hjj, hj2, st.1, st.2, by rw [HS.out.2.2.2, down_off _ _ _ _ (Or.inl hc)]⟩
    case rest =>
      obtain ⟨j2, rfl, hjj, hj2, hK, hRow, hS⟩ := hcut
      obtain ⟨G, hG, hcell, hfro⟩ := hRow.fam d.size hse
      have HD : Hid ((∀ t, G t = e[t]!) ∧ RK w wc blk ∧ Row wc blk off e ∧ scanDown (fun x => !ltInt x e[a]!) e i2 j = j2) := ⟨hG, hK, hRow, hS⟩
      clear hG hK hRow hS
      go_wp2
      · have hgt : j2 < i2 := by assumption
        have hmid := mid_cell HD.out.2.2.1 j2 a (by omega) (by omega) (G a) (HD.out.1 _)
        go_region
        all_goals go_wp2
        go_ret2
        have st := swap_step HD.out.2.1 HD.out.2.2.1 1 j2 a (by omega) (by omega) (G j2) (G a) (HD.out.1 _) (HD.out.1 _)
        have E : Sort.partition ltInt d a b pv = (j2, true, swp e j2 a) := by rw [part_top d a b pv i2 j2 (by have q := HU.out.2.2; rw [H.out.2.2.1, H.out.2.2.2.1, H.out.2.2.2.2] at q; exact q) (by have q := HD.out.2.2.2; rw [H.out.2.2.2.1, H.out.2.2.2.2] at q; exact q), if_pos hgt, H.out.2.2.2.2]
        rw [E]
        exact ⟨rfl, st.1, st.2⟩
      · have hle : ¬ j2 < i2 := by omega
        have E0 : Hid (Sort.partition ltInt d a b pv = ((Sort.partLoop ltInt a (i2 + 1) (j2 - 1) (swp e i2 j2)).1, false, swp (Sort.partLoop ltInt a (i2 + 1) (j2 - 1) (swp e i2 j2)).2 (Sort.partLoop ltInt a (i2 + 1) (j2 - 1) (swp e i2 j2)).1 a)) := by
          show _ = _
          rw [part_top d a b pv i2 j2 (by have q := HU.out.2.2; rw [H.out.2.2.1, H.out.2.2.2.1, H.out.2.2.2.2] at q; exact q) (by have q := HD.out.2.2.2; rw [H.out.2.2.2.1, H.out.2.2.2.2] at q; exact q), if_neg hle, H.out.2.2.2.2]
        have hmid := mid_cell HD.out.2.2.1 i2 j2 (by omega) (by omega) (G j2) (HD.out.1 _)
        obtain ⟨i1, hi1⟩ : ∃ i1, i1 = i2 := ⟨_, rfl⟩
        obtain ⟨j1, hj1⟩ : ∃ j1, j1 = j2 := ⟨_, rfl⟩
        obtain ⟨d1, hd1⟩ : ∃ d1, d1 = e := ⟨_, rfl⟩
        subst hi1 hj1 hd1
        go_region
        all_goals go_wp2_with (fail)
        clear hmid
        go_loopg [10, 11] (b - a) (fun k vi vj wr => ∃ (i j : Nat) (e : Array Int), vi = .int .i64 i ∧ vj = .int .i64 j ∧ a < i ∧ i ≤ j + 2 ∧ j < b ∧ j + 1 - i ≤ k ∧ e.size = d.size ∧ RK w wr blk ∧ Row wr blk off e ∧
            Sort.partLoop ltInt a i j e = Sort.partLoop ltInt a (i1 + 1) (j1 - 1) (swp d1 i1 j1))
        case atStart =>
          have st := swap_step HD.out.2.1 HD.out.2.2.1 1 i1 j1 (by omega) (by omega) (G i1) (G j1) (HD.out.1 _) (HD.out.1 _)
          exact ⟨i1 + 1, j1 - 1, swp d1 i1 j1, by go_num, by congr 1; omega, by omega, by omega, by omega, by omega, by rw [swp_size]; exact hse, st.1, st.2, rfl⟩
        case round =>
          clear HD HU H hcell hfro
          obtain ⟨i, j, e, rfl, rfl, hai, hij, hjb, hgk, hse, hK, hRow, hO⟩ := hrel
          have H : Hid (RK w wr blk ∧ Row wr blk off e ∧ Sort.partLoop ltInt a i j e = Sort.partLoop ltInt a (i1 + 1) (j1 - 1) (swp d1 i1 j1)) := ⟨hK, hRow, hO⟩
          clear hK hRow hO
          go_upto_block 6 with fail
          go_cut [10] from 99 to 152 (fun v9 wc => ∃ i2 : Nat, v9 = .int .i64 i2 ∧ i ≤ i2 ∧ i2 ≤ j + 2 ∧ RK w wc blk ∧ Row wc blk off e ∧ scanUp (fun x => ltInt x e[a]!) e j i = i2)
          case first =>
            go_wp2_with fail
            go_loopg [10] (j + 1 - i) (fun k vi wr => ∃ i2 : Nat, vi = .int .i64 i2 ∧ i ≤ i2 ∧ i2 ≤ j + 2 ∧ j + 1 - i2 ≤ k ∧ RK w wr blk ∧ Row wr blk off e ∧ scanUp (fun x => ltInt x e[a]!) e j i = scanUp (fun x => ltInt x e[a]!) e j i2)
            case atStart => exact ⟨i, rfl, Nat.le_refl _, hij, Nat.le_refl _, H.out.1, H.out.2.1, rfl⟩
            case round =>
              obtain ⟨i2, rfl, hii, hi2, hk2, hK, hRow, hS⟩ := hrel
              obtain ⟨G, hG, hcell, hfro⟩ := hRow.fam d.size hse
              have HS : Hid ((∀ t, G t = e[t]!) ∧ RK w wr blk ∧ Row wr blk off e ∧ scanUp (fun x => ltInt x e[a]!) e j i = scanUp (fun x => ltInt x e[a]!) e j i2) := ⟨hG, hK, hRow, hS⟩
              clear hG hK hRow hS
              go_wp2
              by_cases hc : i2 ≤ j
              · go_quiet (first | (go_at_call 210; refine Calls.quiet_of_same (less_any _ _ _)))
                go_wp2
                · have hl : ltInt (G i2) (G a) = true := by assumption
                  go_roundg (j - i2)
                  case measure => omega
                  case rel =>
                    have st := still_step HS.out.2.1 HS.out.2.2.1 nq
                    exact ⟨i2 + 1, by go_num, by omega, by omega, by omega, st.1, st.2, by
                      rw [HS.out.2.2.2, up_on _ _ _ _ hc (by rw [← HS.out.1, ← HS.out.1]; exact hl)]⟩
                · have hl : ltInt (G i2) (G a) = false := by assumption
                  go_meet
                  case rel =>
                    have st := still_step HS.out.2.1 HS.out.2.2.1 nq
                    exact ⟨i2, rfl, hii, hi2, st.1, st.2, by rw [HS.out.2.2.2, up_off _ _ _ _ (Or.inr (by rw [← HS.out.1, ← HS.out.1]; exact hl))]⟩
              · go_quiet (first | (go_at_call 210; refine Calls.quiet_of_same (less_any _ _ _)))
                go_wp2
                go_meet
                case rel =>
                  have st := still_step HS.out.2.1 HS.out.2.2.1 nq
                  exact ⟨i2, rfl, hii, hi2, st.1, st.2, by rw [HS.out.2.2.2, up_off _ _ _ _ (Or.inl hc)]⟩
          case rest =>
            obtain ⟨i2, rfl, hii, hi2, hK, hRow, hS⟩ := hcut
            have HU : Hid (RK w wc blk ∧ Row wc blk off e ∧ scanUp (fun x => ltInt x e[a]!) e j i = i2) := ⟨hK, hRow, hS⟩
            clear hK hRow hS
            go_upto_block 8 with fail
            go_cut [11] from 99 to 152 (fun v10 wc => ∃ j2 : Nat, v10 = .int .i64 j2 ∧ j2 ≤ j ∧ i2 ≤ j2 + 2 ∧ RK w wc blk ∧ Row wc blk off e ∧ scanDown (fun x => !ltInt x e[a]!) e i2 j = j2)
            case first =>
              go_wp2_with fail
              go_loopg [11] (j + 1 - i2) (fun k vj wr => ∃ j2 : Nat, vj = .int .i64 j2 ∧ j2 ≤ j ∧ i2 ≤ j2 + 2 ∧ j2 + 1 - i2 ≤ k ∧ RK w wr blk ∧ Row wr blk off e ∧ scanDown (fun x => !ltInt x e[a]!) e i2 j = scanDown (fun x => !ltInt x e[a]!) e i2 j2)
              case atStart => exact ⟨j, rfl, Nat.le_refl _, hi2, Nat.le_refl _, HU.out.1, HU.out.2.1, rfl⟩
              case round =>
                obtain ⟨j2, rfl, hjj, hj2, hk2, hK, hRow, hS⟩ := hrel
                obtain ⟨G, hG, hcell, hfro⟩ := hRow.fam d.size hse
                have HS : Hid ((∀ t, G t = e[t]!) ∧ RK w wr blk ∧ Row wr blk off e ∧ scanDown (fun x => !ltInt x e[a]!) e i2 j = scanDown (fun x => !ltInt x e[a]!) e i2 j2) := ⟨hG, hK, hRow, hS⟩
                clear hG hK hRow hS
                go_wp2
                by_cases hc : i2 ≤ j2
                · go_quiet (first | (go_at_call 210; refine Calls.quiet_of_same (less_any _ _ _)))
                  go_wp2
                  · have hl : (!ltInt (G j2) (G a)) = true := by assumption
                    go_roundg (j2 - i2)
                    case measure => omega
                    case rel =>
                      have st := still_step HS.out.2.1 HS.out.2.2.1 nq
                      exact ⟨j2 - 1, by congr 1; omega, by omega, by omega, by omega, st.1, st.2, by
                        rw [HS.out.2.2.2, down_on _ _ _ _ (by omega) hc (by rw [← HS.out.1, ← HS.out.1]; exact hl)]⟩
                  · have hl : (!ltInt (G j2) (G a)) = false := by assumption
                    go_meet
                    case rel =>
                      have st := still_step HS.out.2.1 HS.out.2.2.1 nq
                      exact ⟨j2, rfl, hjj, hj2, st.1, st.2, by rw [HS.out.2.2.2, down_off _ _ _ _ (Or.inr (by rw [← HS.out.1, ← HS.out.1]; exact hl))]⟩
                · go_quiet (first | (go_at_call 210; refine Calls.quiet_of_same (less_any _ _ _)))
                  go_wp2
                  go_meet
                  case rel =>
                    have st := still_step HS.out.2.1 HS.out.2.2.1 nq
                    exact ⟨j2, rfl, hjj, hj2, st.1, st.2, by rw [HS.out.2.2.2, down_off _ _ _ _ (Or.inl hc)]⟩
            case rest =>
              obtain ⟨j2, rfl, hjj, hj2, hK, hRow, hS⟩ := hcut
              obtain ⟨G, hG, hcell, hfro⟩ := hRow.fam d.size hse
              have HD : Hid ((∀ t, G t = e[t]!) ∧ RK w wc blk ∧ Row wc blk off e ∧ scanDown (fun x => !ltInt x e[a]!) e i2 j = j2) := ⟨hG, hK, hRow, hS⟩
              clear hG hK hRow hS
              go_wp2
              · have hgt : j2 < i2 := by assumption
                have q : Sort.partLoop ltInt a i j e = (j2, e) := by rw [part_unf a i j e i2 j2 HU.out.2.2 HD.out.2.2.2, if_pos hgt]
                have hmid := mid_cell HD.out.2.2.1 j2 a (by omega) (by omega) (G a) (HD.out.1 _)
                go_region
                all_goals go_wp2
                go_ret2
                have st := swap_step HD.out.2.1 HD.out.2.2.1 1 j2 a (by omega) (by omega) (G j2) (G a) (HD.out.1 _) (HD.out.1 _)
                rw [E0.out, ← H.out.2.2, q]
                exact ⟨rfl, st.1, st.2⟩
              · have hle : ¬ j2 < i2 := by omega
                have hmid := mid_cell HD.out.2.2.1 i2 j2 (by omega) (by omega) (G j2) (HD.out.1 _)
                go_region
                all_goals go_wp2
                go_roundg (j2 - i2)
                case measure => omega
                case rel =>
                  have st := swap_step HD.out.2.1 HD.out.2.2.1 1 i2 j2 (by omega) (by omega) (G i2) (G j2) (HD.out.1 _) (HD.out.1 _)
                  exact ⟨i2 + 1, j2 - 1, swp e i2 j2, by go_num, by congr 1; omega, by omega, by omega, by omega, by omega, by rw [swp_size]; exact hse, st.1, st.2, by
                    rw [← H.out.2.2, part_unf a i j e i2 j2 HU.out.2.2 HD.out.2.2.2, if_neg hle, dif_pos (by omega)]⟩
end Go.Proofs.YtmajlldfiiokoaaGreatDoor

/- slices' partial insertion sort at places: what it makes of a row. -/
namespace Go.Proofs.YtmajlldfiiokoaaGreatDoor
open Go.ChangeShapes Go.WideShapes Go.ChangeAt Go.RowKit
open Go.Sort (swp ltInt scanSorted shiftDown shiftUp partialIns)
set_option linter.unusedVariables false

theorem sorted_on (d : Array Int) (b i : Nat) (h : i < b) (hl : ltInt d[i]! d[i - 1]! = false) : scanSorted ltInt d b i = scanSorted ltInt d b (i + 1) := by
  rw [scanSorted, if_pos (by rw [hl]; simpa using h)]
theorem sorted_off (d : Array Int) (b i : Nat) (h : ¬ i < b ∨ ltInt d[i]! d[i - 1]! = true) : scanSorted ltInt d b i = i := by
  rw [scanSorted, if_neg]
  rcases h with h | h
  · simp; intro q; omega
  · rw [h]; simp
theorem shd_on (j : Nat) (d : Array Int) (h : 0 < j) (hl : ltInt d[j]! d[j - 1]! = true) : shiftDown ltInt j d = shiftDown ltInt (j - 1) (swp d j (j - 1)) := by
  cases j with
  | zero => omega
  | succ k => rw [Nat.add_sub_cancel] at hl ⊢; rw [shiftDown, hl]; rfl
theorem shd_off (j : Nat) (d : Array Int) (h : ¬ 0 < j ∨ ltInt d[j]! d[j - 1]! = false) : shiftDown ltInt j d = d := by
  cases j with
  | zero => rfl
  | succ k =>
    rw [Nat.add_sub_cancel] at h
    rcases h with h | h
    · omega
    · rw [shiftDown, h]; rfl
theorem shu_on (b j : Nat) (d : Array Int) (h : j < b) (hl : ltInt d[j]! d[j - 1]! = true) : shiftUp ltInt b j d = shiftUp ltInt b (j + 1) (swp d j (j - 1)) := by
  rw [shiftUp.eq_def ltInt b j d, if_pos h, hl]; rfl
theorem shu_off (b j : Nat) (d : Array Int) (h : ¬ j < b ∨ ltInt d[j]! d[j - 1]! = false) : shiftUp ltInt b j d = d := by
  rw [shiftUp]
  by_cases hj : j < b
  · rcases h with h | h
    · omega
    · rw [if_pos hj, h]; rfl
  · rw [if_neg hj]

theorem pins_end (a b s i i2 : Nat) (d : Array Int) (h : scanSorted ltInt d b i = i2) (hb : i2 = b) : partialIns ltInt a b (s + 1) i d = (d, true) := by
  rw [partialIns]; dsimp only; rw [h, if_pos hb]
theorem pins_short (a b s i i2 : Nat) (d : Array Int) (h : scanSorted ltInt d b i = i2) (hb : i2 ≠ b) (h50 : b - a < 50) : partialIns ltInt a b (s + 1) i d = (d, false) := by
  rw [partialIns]; dsimp only; rw [h, if_neg hb, if_pos h50]
theorem pins_go (a b s i i2 : Nat) (d d1 d2 d3 : Array Int) (h : scanSorted ltInt d b i = i2) (hb : i2 ≠ b) (h50 : ¬ b - a < 50) (h1 : d1 = swp d i2 (i2 - 1)) (h2 : d2 = if i2 - a ≥ 2 then shiftDown ltInt (i2 - 1) d1 else d1)
    (h3 : d3 = if b - i2 ≥ 2 then shiftUp ltInt b (i2 + 1) d2 else d2) : partialIns ltInt a b (s + 1) i d = partialIns ltInt a b s i2 d3 := by
  rw [partialIns]; dsimp only; rw [h, if_neg hb, if_neg h50, h3, h2, h1]

set_option maxHeartbeats 1000000 in
set_option maxRecDepth 100000 in
theorem pins_any (blk off cap a b : Nat) (d : Array Int) (w : World) (hR : Row w blk off d) (hab : a < b) (hb : b ≤ d.size) (hsz : d.size < 4611686018427387904) :
    Calls Tryz.prog 209 #[.slice (some ⟨blk, off, none⟩) d.size cap, .int .i64 a, .int .i64 b] w fun e w' =>
      e = .returned (.bool (Sort.partialInsertionSort ltInt d a b).2) ∧ RK w w' blk ∧ Row w' blk off (Sort.partialInsertionSort ltInt d a b).1 := by
  have H0 : Hid (Row w blk off d) := hR
  clear hR
  go_enter Tryz.func209, Tryz.ntmps209
  go_wp2_with (fail)
  go_loopg [7, 8] 5 (fun k vi vj wr => ∃ (i j : Nat) (e : Array Int), vi = .int .i64 i ∧ vj = .int .i64 j ∧ a < i ∧ i ≤ b ∧ j ≤ 5 ∧ 5 - j = k ∧ e.size = d.size ∧ RK w wr blk ∧ Row wr blk off e ∧
      partialIns ltInt a b (5 - j) i e = Sort.partialInsertionSort ltInt d a b)
  case atStart => exact ⟨a + 1, 0, d, by go_num, rfl, by omega, by omega, by omega, rfl, rfl, RK.refl _ _, H0.out, rfl⟩
  case round =>
    clear H0
    obtain ⟨i, j, e, rfl, rfl, hai, hib, hj5, hgk, hse, hK, hRow, hO⟩ := hrel
    have H : Hid (RK w wr blk ∧ Row wr blk off e ∧ partialIns ltInt a b (5 - j) i e = Sort.partialInsertionSort ltInt d a b) := ⟨hK, hRow, hO⟩
    clear hK hRow hO
    by_cases hj : j < 5
    · have HN : Hid (5 - j = (4 - j) + 1) := by show _ = _; omega
      go_upto_block 2 with fail
      go_cut [7] from 13 to 132 (fun v7 wc => ∃ i2 : Nat, v7 = .int .i64 i2 ∧ i ≤ i2 ∧ i2 ≤ b ∧ RK w wc blk ∧ Row wc blk off e ∧ scanSorted ltInt e b i = i2)
      case first =>
        go_wp2_with fail
        go_loopg [7] (b - i) (fun k vi wr => ∃ i2 : Nat, vi = .int .i64 i2 ∧ i ≤ i2 ∧ i2 ≤ b ∧ b - i2 ≤ k ∧ RK w wr blk ∧ Row wr blk off e ∧ scanSorted ltInt e b i = scanSorted ltInt e b i2)
        case atStart => exact ⟨i, rfl, Nat.le_refl _, hib, Nat.le_refl _, H.out.1, H.out.2.1, rfl⟩
        case round =>
          obtain ⟨i2, rfl, hii, hi2, hk2, hK, hRow, hS⟩ := hrel
          obtain ⟨G, hG, hcell, hfro⟩ := hRow.fam d.size hse
          have HS : Hid ((∀ t, G t = e[t]!) ∧ RK w wr blk ∧ Row wr blk off e ∧ scanSorted ltInt e b i = scanSorted ltInt e b i2) := ⟨hG, hK, hRow, hS⟩
          clear hG hK hRow hS
          go_wp2
          by_cases hc : i2 < b
          · go_quiet (first | (go_at_call 210; refine Calls.quiet_of_same (less_any _ _ _)))
            go_wp2
            · have hl : ltInt (G i2) (G (i2 - 1)) = false := not_true_of (by assumption)
              go_roundg (b - i2 - 1)
              case measure => omega
              case rel =>
                have st := still_step HS.out.2.1 HS.out.2.2.1 nq
                exact ⟨i2 + 1, by go_num, by omega, by omega, by omega, st.1, st.2, by
                  rw [HS.out.2.2.2, sorted_on _ _ _ hc (by rw [← HS.out.1, ← HS.out.1]; exact hl)]⟩
            · have hl : ltInt (G i2) (G (i2 - 1)) = true := not_false_of (by assumption)
              go_meet
              case rel =>
                have st := still_step HS.out.2.1 HS.out.2.2.1 nq
                exact ⟨i2, rfl, hii, hi2, st.1, st.2, by rw [HS.out.2.2.2, sorted_off _ _ _ (Or.inr (by rw [← HS.out.1, ← HS.out.1]; exact hl))]⟩
          · go_quiet (first | (go_at_call 210; refine Calls.quiet_of_same (less_any _ _ _)))
            go_wp2
            go_meet
            case rel =>
              have st := still_step HS.out.2.1 HS.out.2.2.1 nq
              exact ⟨i2, rfl, hii, hi2, st.1, st.2, by rw [HS.out.2.2.2, sorted_off _ _ _ (Or.inl hc)]⟩
      case rest =>
        obtain ⟨i2, rfl, hii, hi2, hK, hRow, hS⟩ := hcut
        obtain ⟨G, hG, hcell, hfro⟩ := hRow.fam d.size hse
        have HU : Hid ((∀ t, G t = e[t]!) ∧ RK w wc blk ∧ Row wc blk off e ∧ scanSorted ltInt e b i = i2) := ⟨hG, hK, hRow, hS⟩
        clear hG hK hRow hS
        by_cases hib2 : i2 = b
        · have HB : Hid (i2 = b) := hib2
          have q0 : ((i2 : Int) == b) = true := by rw [hib2]; exact beq_self_eq_true _
          clear hib2
          go_wp2
          go_ret
          have q : partialIns ltInt a b (5 - j) i e = (e, true) := by rw [HN.out, pins_end a b (4 - j) i i2 e HU.out.2.2.2 HB.out]
          rw [← H.out.2.2, q]
          exact ⟨rfl, HU.out.2.1, HU.out.2.2.1⟩
        · have q0 : ((i2 : Int) == b) = false := by simp; omega
          by_cases h50 : (b : Int) - a < 50
          · go_wp2
            go_ret
            have q : partialIns ltInt a b (5 - j) i e = (e, false) := by rw [HN.out, pins_short a b (4 - j) i i2 e HU.out.2.2.2 hib2 (by omega)]
            rw [← H.out.2.2, q]
            exact ⟨rfl, HU.out.2.1, HU.out.2.2.1⟩
          · go_upto_region 11 with fail
            go_region
            all_goals go_upto_if 61 with fail
            obtain ⟨e1, he1⟩ : ∃ e1, e1 = swp e i2 (i2 - 1) := ⟨_, rfl⟩
            have hse1 : e1.size = d.size := by rw [he1, swp_size]; exact hse
            have st := swap_step HU.out.2.1 HU.out.2.2.1 1 i2 (i2 - 1) (by omega) (by omega) (G i2) (G (i2 - 1)) (HU.out.1 _) (HU.out.1 _)
            rw [← he1] at st
            have H1 : Hid _ := st
            have HE1 : Hid (e1 = swp e i2 (i2 - 1)) := he1
            clear st he1 hcell hfro
            go_cut [] from 13 to 132 (fun wc => ∃ e2 : Array Int, e2.size = d.size ∧ RK w wc blk ∧ Row wc blk off e2 ∧ e2 = if i2 - a ≥ 2 then shiftDown ltInt (i2 - 1) e1 else e1)
            case first =>
              go_wp2_with fail
              · have hge : i2 - a ≥ 2 := by omega
                go_loopg [9] i2 (fun k vj wr => ∃ (jj : Nat) (c : Array Int), vj = .int .i64 jj ∧ jj ≤ i2 - 1 ∧ jj ≤ k ∧ c.size = d.size ∧ RK w wr blk ∧ Row wr blk off c ∧ shiftDown ltInt jj c = shiftDown ltInt (i2 - 1) e1)
                case atStart => exact ⟨i2 - 1, e1, by congr 1; omega, Nat.le_refl _, by omega, hse1, H1.out.1, H1.out.2, rfl⟩
                case round =>
                  obtain ⟨jj, c, rfl, hjj, hk2, hsc, hK, hRow, hS⟩ := hrel
                  obtain ⟨G, hG, hcell, hfro⟩ := hRow.fam d.size hsc
                  have HS : Hid ((∀ t, G t = c[t]!) ∧ RK w wr blk ∧ Row wr blk off c ∧ shiftDown ltInt jj c = shiftDown ltInt (i2 - 1) e1) := ⟨hG, hK, hRow, hS⟩
                  clear hG hK hRow hS
                  by_cases hc : 0 < jj
                  · go_upto_region 16 with fail
                    go_quiet (first | (go_at_call 210; refine Calls.quiet_of_same (less_any _ _ _)))
                    go_wp2
                    · have hl : ltInt (G jj) (G (jj - 1)) = false := not_true_of (by assumption)
                      go_meet
                      case rel =>
                        have st := still_step HS.out.2.1 HS.out.2.2.1 nq
                        exact ⟨c, hsc, st.1, st.2, by rw [if_pos hge, ← HS.out.2.2.2, shd_off _ _ (Or.inr (by rw [← HS.out.1, ← HS.out.1]; exact hl))]⟩
                    · have hl : ltInt (G jj) (G (jj - 1)) = true := not_false_of (by assumption)
                      go_region
                      all_goals go_wp2
                      go_roundg (jj - 1)
                      case measure => omega
                      case rel =>
                        have st := swap_step HS.out.2.1 HS.out.2.2.1 (nq + 1) jj (jj - 1) (by omega) (by omega) (G jj) (G (jj - 1)) (HS.out.1 _) (HS.out.1 _)
                        exact ⟨jj - 1, swp c jj (jj - 1), by congr 1; omega, by omega, by omega, by rw [swp_size]; exact hsc, st.1, st.2, by
                          rw [← HS.out.2.2.2, shd_on _ _ hc (by rw [← HS.out.1, ← HS.out.1]; exact hl)]⟩
                  · go_wp2_with fail
                    go_meet
                    case rel => exact ⟨c, hsc, HS.out.2.1, HS.out.2.2.1, by rw [if_pos hge, ← HS.out.2.2.2, shd_off _ _ (Or.inl hc)]⟩
              · have hlt : ¬ i2 - a ≥ 2 := by omega
                go_meet
                case rel => exact ⟨e1, hse1, H1.out.1, H1.out.2, by rw [if_neg hlt]⟩
            case rest =>
              obtain ⟨e2, hse2, hK, hRow, hE2⟩ := hcut
              have H2 : Hid (RK w wc blk ∧ Row wc blk off e2 ∧ e2 = if i2 - a ≥ 2 then shiftDown ltInt (i2 - 1) e1 else e1) := ⟨hK, hRow, hE2⟩
              clear hK hRow hE2
              go_wp2_with fail
              · have hge : b - i2 ≥ 2 := by omega
                go_loopg [10] b (fun k vj wr => ∃ (jj : Nat) (c : Array Int), vj = .int .i64 jj ∧ i2 < jj ∧ jj ≤ b ∧ b - jj ≤ k ∧ c.size = d.size ∧ RK w wr blk ∧ Row wr blk off c ∧ shiftUp ltInt b jj c = shiftUp ltInt b (i2 + 1) e2)
                case atStart => exact ⟨i2 + 1, e2, by go_num, by omega, by omega, by omega, hse2, H2.out.1, H2.out.2.1, rfl⟩
                case round =>
                  obtain ⟨jj, c, rfl, hijj, hjj, hk2, hsc, hK, hRow, hS⟩ := hrel
                  obtain ⟨G, hG, hcell, hfro⟩ := hRow.fam d.size hsc
                  have HS : Hid ((∀ t, G t = c[t]!) ∧ RK w wr blk ∧ Row wr blk off c ∧ shiftUp ltInt b jj c = shiftUp ltInt b (i2 + 1) e2) := ⟨hG, hK, hRow, hS⟩
                  clear hG hK hRow hS
                  by_cases hc : jj < b
                  · go_upto_region 22 with fail
                    go_quiet (first | (go_at_call 210; refine Calls.quiet_of_same (less_any _ _ _)))
                    go_wp2
                    · have hl : ltInt (G jj) (G (jj - 1)) = false := not_true_of (by assumption)
                      have st := still_step HS.out.2.1 HS.out.2.2.1 nq
                      go_roundg (4 - j)
                      case measure => omega
                      case rel =>
                        exact ⟨i2, j + 1, c, rfl, by go_num, by omega, by omega, by omega, by omega, hsc, st.1, st.2, by
                          have q := pins_go a b (4 - j) i i2 e e1 e2 c HU.out.2.2.2 hib2 (by omega) HE1.out H2.out.2.2 (by rw [if_pos hge, ← HS.out.2.2.2, shu_off _ _ _ (Or.inr (by rw [← HS.out.1, ← HS.out.1]; exact hl))])
                          rw [← H.out.2.2, HN.out, q, show 5 - (j + 1) = 4 - j by omega]⟩
                    · have hl : ltInt (G jj) (G (jj - 1)) = true := not_false_of (by assumption)
                      go_region
                      all_goals go_wp2
                      go_roundg (b - jj - 1)
                      case measure => omega
                      case rel =>
                        have st := swap_step HS.out.2.1 HS.out.2.2.1 (nq + 1) jj (jj - 1) (by omega) (by omega) (G jj) (G (jj - 1)) (HS.out.1 _) (HS.out.1 _)
                        exact ⟨jj + 1, swp c jj (jj - 1), by go_num, by omega, by omega, by omega, by rw [swp_size]; exact hsc, st.1, st.2, by
                          rw [← HS.out.2.2.2, shu_on _ _ _ hc (by rw [← HS.out.1, ← HS.out.1]; exact hl)]⟩
                  · go_wp2_with fail
                    go_roundg (4 - j)
                    case measure => omega
                    case rel =>
                      exact ⟨i2, j + 1, c, rfl, by go_num, by omega, by omega, by omega, by omega, hsc, HS.out.2.1, HS.out.2.2.1, by
                        have q := pins_go a b (4 - j) i i2 e e1 e2 c HU.out.2.2.2 hib2 (by omega) HE1.out H2.out.2.2 (by rw [if_pos hge, ← HS.out.2.2.2, shu_off _ _ _ (Or.inl hc)])
                        rw [← H.out.2.2, HN.out, q, show 5 - (j + 1) = 4 - j by omega]⟩
              · have hlt : ¬ b - i2 ≥ 2 := by omega
                go_roundg (4 - j)
                case measure => omega
                case rel =>
                  exact ⟨i2, j + 1, e2, rfl, by go_num, by omega, by omega, by omega, by omega, hse2, H2.out.1, H2.out.2.1, by
                    have q := pins_go a b (4 - j) i i2 e e1 e2 e2 HU.out.2.2.2 hib2 (by omega) HE1.out H2.out.2.2 (by rw [if_neg hlt])
                    rw [← H.out.2.2, HN.out, q, show 5 - (j + 1) = 4 - j by omega]⟩
    · have hj' : j = 5 := by omega
      subst hj'
      go_wp2
      go_ret
      have q := H.out.2.2
      rw [← q]
      exact ⟨rfl, H.out.1, H.out.2.1⟩
end Go.Proofs.YtmajlldfiiokoaaGreatDoor

/- math/bits.Len of small numbers; slices' nextPowerOfTwo and xorshift. -/
namespace Go.Proofs.YtmajlldfiiokoaaGreatDoor
open Go.ChangeShapes Go.WideShapes Go.ChangeAt Go.RowKit
open Go.Sort (swp ltInt bitsLen xorNext xorNextN)
set_option linter.unusedVariables false

set_option maxRecDepth 10000 in
theorem tab_len : ∀ n, n < 64 → (Lib.len8tab[n]!).toNat = bitsLen n := by decide
theorem tab_at (n : Nat) (h : n < Lib.len8tab.size) (hn : n < 64) : wrap64 (wrap64 ((Lib.len8tab[n]'h).toNat : Int)) = (bitsLen n : Int) := by
  have q := tab_len n hn
  rw [getElem!_pos Lib.len8tab n h] at q
  have l : (Lib.len8tab[n]'h).toNat < 256 := (Lib.len8tab[n]'h).toNat_lt
  have w1 : wrap64 ((Lib.len8tab[n]'h).toNat : Int) = ((Lib.len8tab[n]'h).toNat : Int) := IntWalk.wrap64_in _ (by omega)
  rw [w1, w1, q]

set_option maxHeartbeats 1000000 in
set_option maxRecDepth 100000 in
theorem len64_any (x : Int) (w : World) (h0 : 0 ≤ x) (hx : x < 64) :
    Calls Tryz.prog 144 #[.int .u64 x] w fun e w' => e = .returned (.int .i64 (bitsLen x.toNat)) ∧ w' = w := by
  go_enter Tryz.func144, Tryz.ntmps144
  go_wp2
  go_ret
  refine ⟨congrArg Ending.returned (congrArg (Value.int IntKind.i64) ?_), rfl⟩
  exact tab_at x.toNat _ (by omega)
theorem len_any (x : Int) (w : World) (h0 : 0 ≤ x) (hx : x < 64) :
    Calls Tryz.prog 101 #[.int .u64 x] w fun e w' => e = .returned (.int .i64 (bitsLen x.toNat)) ∧ w' = w := by
  go_enter Tryz.func101, Tryz.ntmps101
  go_wp2_with (go_at_call 144; refine (len64_any x _ h0 hx).mono ?_; rintro e w' ⟨rfl, rfl⟩)
  go_ret
  exact ⟨rfl, rfl⟩

theorem xor_nat (x y : Nat) (hx : x < 18446744073709551616) (hy : y < 18446744073709551616) : bits .xor .u64 (x : Int) (y : Int) = ((x ^^^ y : Nat) : Int) := by
  have l : x ^^^ y < 2 ^ 64 := Nat.xor_lt_two_pow hx hy
  show IntKind.u64.wrap (((BitVec.ofInt 64 (x : Int)) ^^^ (BitVec.ofInt 64 (y : Int))).toNat : Int) = _
  rw [show BitVec.ofInt 64 (x : Int) = BitVec.ofNat 64 x from BitVec.ofInt_natCast .., show BitVec.ofInt 64 (y : Int) = BitVec.ofNat 64 y from BitVec.ofInt_natCast ..]
  rw [BitVec.toNat_xor, BitVec.toNat_ofNat, BitVec.toNat_ofNat, Nat.mod_eq_of_lt (by simpa using hx), Nat.mod_eq_of_lt (by simpa using hy)]
  show ((x ^^^ y : Nat) : Int) % 18446744073709551616 = _
  omega
theorem and_nat (x y : Nat) (hx : x < 18446744073709551616) (hy : y < 18446744073709551616) : bits .and .u64 (x : Int) (y : Int) = ((x &&& y : Nat) : Int) := by
  have l : x &&& y ≤ x := Nat.and_le_left
  show IntKind.u64.wrap (((BitVec.ofInt 64 (x : Int)) &&& (BitVec.ofInt 64 (y : Int))).toNat : Int) = _
  rw [show BitVec.ofInt 64 (x : Int) = BitVec.ofNat 64 x from BitVec.ofInt_natCast .., show BitVec.ofInt 64 (y : Int) = BitVec.ofNat 64 y from BitVec.ofInt_natCast ..]
  rw [BitVec.toNat_and, BitVec.toNat_ofNat, BitVec.toNat_ofNat, Nat.mod_eq_of_lt (by simpa using hx), Nat.mod_eq_of_lt (by simpa using hy)]
  show ((x &&& y : Nat) : Int) % 18446744073709551616 = _
  omega

def Rnd (w : World) (p X : Nat) : Prop := w.cell? ⟨p, 0, none⟩ = some (.int .u64 X) ∧ w.frozen? ⟨p, 0, none⟩ = false

theorem rnd_set {w0 w : World} {p X x1 : Nat} (hK : RK w0 w p) (h : Rnd w p X) (v : Int) (hv : v = (x1 : Nat)) (n : Nat) :
    RK w0 ((w.drewN n).setCell ⟨p, 0, none⟩ (.int .u64 v)) p ∧ Rnd ((w.drewN n).setCell ⟨p, 0, none⟩ (.int .u64 v)) p x1 := by
  subst hv
  exact ⟨(hK.trans (RK.drewN _ _ _)).trans (RK.setCell _ _ _ _), World.cell?_setCell_same' _ _ _ (by show (w.cell? _).isSome = true; rw [h.1]; rfl), by rw [World.frozen?_setCell]; exact h.2⟩
theorem wp_gen {P : Program} {c : Code} {Q : Exit → Act → World → Prop} {a : Act} {W : World} (R : World → Prop) (hW : R W) (h : ∀ w1, R w1 → Code.wp P c Q a w1) : Code.wp P c Q a W := h W hW

theorem next_any (p X : Nat) (w : World) (hC : Rnd w p X) (hX : X < 18446744073709551616) :
    Calls Tryz.prog 177 #[.pointer (some ⟨p, 0, none⟩)] w fun e w' =>
      e = .returned (.int .u64 (xorNextN X)) ∧ RK w w' p ∧ Rnd w' p (xorNextN X) := by
  have hc := hC.1
  have hf := hC.2
  have HC : Hid (Rnd w p X) := hC
  clear hC
  go_enter Tryz.func177, Tryz.ntmps177
  go_wp2
  obtain ⟨x1, e1⟩ : ∃ x1 : Nat, x1 = X ^^^ (X * 8192 % 18446744073709551616) := ⟨_, rfl⟩
  obtain ⟨x2, e2⟩ : ∃ x2 : Nat, x2 = x1 ^^^ (x1 / 128) := ⟨_, rfl⟩
  obtain ⟨x3, e3⟩ : ∃ x3 : Nat, x3 = x2 ^^^ (x2 * 131072 % 18446744073709551616) := ⟨_, rfl⟩
  have l1 : x1 < 18446744073709551616 := by rw [e1]; exact Nat.xor_lt_two_pow (n := 64) hX (by omega)
  have l2 : x2 < 18446744073709551616 := by rw [e2]; exact Nat.xor_lt_two_pow (n := 64) l1 (by omega)
  have E : Hid (xorNextN X = x3) := by show _ = _; rw [e3, e2, e1]; rfl
  have V1 : Hid (bits .xor .u64 (X : Int) (IntKind.u64.wrap ((X : Int) * 8192)) = (x1 : Nat)) := by
    show _ = _
    rw [show IntKind.u64.wrap ((X : Int) * 8192) = ((X * 8192 % 18446744073709551616 : Nat) : Int) by show ((X : Int) * 8192) % 18446744073709551616 = _; omega, xor_nat _ _ hX (by omega), e1]
  have V2 : Hid (bits .xor .u64 (x1 : Int) ((x1 : Int) / 128) = (x2 : Nat)) := by
    show _ = _
    rw [show (x1 : Int) / 128 = ((x1 / 128 : Nat) : Int) by omega, xor_nat _ _ l1 (by omega), e2]
  have V3 : Hid (bits .xor .u64 (x2 : Int) (IntKind.u64.wrap ((x2 : Int) * 131072)) = (x3 : Nat)) := by
    show _ = _
    rw [show IntKind.u64.wrap ((x2 : Int) * 131072) = ((x2 * 131072 % 18446744073709551616 : Nat) : Int) by show ((x2 : Int) * 131072) % 18446744073709551616 = _; omega, xor_nat _ _ l2 (by omega), e3]
  clear e1 e2 e3
  go_region
  all_goals go_upto_region 2 with fail
  refine wp_gen (fun w1 => RK w w1 p ∧ Rnd w1 p x1) (rnd_set (RK.refl _ _) HC.out _ V1.out 1) ?_
  rintro w1 ⟨hK1, hR1⟩
  have hc := hR1.1
  have hf := hR1.2
  go_region
  all_goals go_upto_region 3 with fail
  refine wp_gen (fun w2 => RK w w2 p ∧ Rnd w2 p x2) (rnd_set hK1 hR1 _ V2.out 1) ?_
  rintro w2 ⟨hK2, hR2⟩
  have hc := hR2.1
  have hf := hR2.2
  go_region
  all_goals go_upto_region 4 with fail
  refine wp_gen (fun w3 => RK w w3 p ∧ Rnd w3 p x3) (rnd_set hK2 hR2 _ V3.out 1) ?_
  rintro w3 ⟨hK3, hR3⟩
  have hc := hR3.1
  have hf := hR3.2
  go_wp2
  go_ret
  rw [E.out]
  exact ⟨rfl, hK3, hR3⟩

set_option maxRecDepth 10000 in
theorem pow_nat : ∀ n : Nat, n < 64 → IntKind.u64.wrap ((2 : Int) ^ min (bitsLen n) 64) = ((1 <<< bitsLen n : Nat) : Int) := by decide
theorem pow_any (n : Nat) (w : World) (hn : n < 64) :
    Calls Tryz.prog 176 #[.int .i64 n] w fun e w' => e = .returned (.int .u64 ((1 <<< bitsLen n : Nat) : Int)) ∧ w' = w := by
  go_enter Tryz.func176, Tryz.ntmps176
  go_wp2_with (go_at_call 101; refine (len_any n _ (by omega) (by omega)).mono ?_; rintro e w' ⟨rfl, rfl⟩)
  go_ret
  exact ⟨congrArg Ending.returned (congrArg (Value.int IntKind.u64) (pow_nat n hn)), rfl⟩
end Go.Proofs.YtmajlldfiiokoaaGreatDoor

/- slices' breakPatterns at places: what it makes of a row. -/
namespace Go.Proofs.YtmajlldfiiokoaaGreatDoor
open Go.ChangeShapes Go.WideShapes Go.ChangeAt Go.RowKit
open Go.Sort (swp ltInt bitsLen xorNext xorNextN breakStep)
set_option linter.unusedVariables false

theorem RK.trans_new {w v u : World} {blk p : Nat} (h : RK w v blk) (k : RK v u p) (hp : w.heap.size ≤ p) : RK w u blk :=
  ⟨k.os.trans h.os, k.tape.trans h.tape, k.output.trans h.output, Nat.le_trans h.size k.size, fun i hi hn => (k.block i (Nat.lt_of_lt_of_le hi h.size) (by omega)).trans (h.block i hi hn)⟩
theorem Rnd.carry {w v : World} {blk p X : Nat} (h : Rnd w p X) (hK : RK w v blk) (hp : p ≠ blk) : Rnd v p X := by
  have hs : p < w.heap.size := by
    rcases Nat.lt_or_ge p w.heap.size with q | q
    · exact q
    · have := h.1; simp [World.cell?, Array.getElem?_eq_none q] at this
  have e := hK.block p hs hp
  exact ⟨by rw [← h.1]; simp only [World.cell?, e], by rw [← h.2]; simp only [World.frozen?, e]⟩
theorem rnd_new (w : World) (X : Nat) (t : TypeId) : Rnd (w.alloc (.cells #[.int .u64 X] t)) w.heap.size X :=
  ⟨by simp [World.cell?_alloc_new], by simp [World.frozen?_alloc_new]⟩
theorem RK.alloc (w : World) (blk : Nat) (o : Obj) : RK w (w.alloc o) blk :=
  ⟨rfl, rfl, rfl, by simp, fun k hk _ => Below.heap_alloc w o k hk⟩

def brk (a L M I0 : Nat) (d : Array Int) : Nat → UInt64 × Array Int
  | 0 => (UInt64.ofNat L, d)
  | t + 1 => breakStep a L M (brk a L M I0 d t) (I0 + t)

theorem brk_whole (d : Array Int) (a b : Nat) (h : 8 ≤ b - a) : Sort.breakPatterns d a b = (brk a (b - a) (1 <<< bitsLen (b - a)) (a + (b - a) / 4 * 2 - 1) d 3).2 := by
  unfold Sort.breakPatterns; dsimp only; rw [if_pos h]; rfl

set_option maxRecDepth 10000 in
theorem pow_le : ∀ n, n < 64 → 1 ≤ 1 <<< bitsLen n ∧ 1 <<< bitsLen n ≤ 64 ∧ (n = 0 ∨ 1 <<< bitsLen n ≤ 2 * n) := by decide

theorem break_any (blk off cap a b : Nat) (d : Array Int) (w : World) (hR : Row w blk off d) (hab : a + 12 < b) (hb : b ≤ d.size) (hblk : blk < w.heap.size) (hsz : d.size < 64) :
    Calls Tryz.prog 206 #[.slice (some ⟨blk, off, none⟩) d.size cap, .int .i64 a, .int .i64 b] w fun e w' =>
      e = .returned (.tuple #[]) ∧ RK w w' blk ∧ Row w' blk off (Sort.breakPatterns d a b) := by
  have HR : Hid (Row w blk off d) := hR
  clear hR
  obtain ⟨L, hL⟩ : ∃ L, L = b - a := ⟨_, rfl⟩
  obtain ⟨M, hM⟩ : ∃ M, M = 1 <<< bitsLen L := ⟨_, rfl⟩
  obtain ⟨I0, hI⟩ : ∃ I0, I0 = a + L / 4 * 2 - 1 := ⟨_, rfl⟩
  have hM1 : 1 ≤ M := by rw [hM]; exact (pow_le L (by omega)).1
  have hM2 : M ≤ 64 := by rw [hM]; exact (pow_le L (by omega)).2.1
  have hM3 : M ≤ 2 * L := by rw [hM]; exact (pow_le L (by omega)).2.2.resolve_left (by omega)
  have hL8 : 12 < L := by omega
  have hLs : a + L ≤ d.size := by omega
  have hI1 : I0 + 1 ≤ a + L / 4 * 2 := by omega
  have hI2 : a + L / 4 * 2 ≤ I0 + 1 := by omega
  have E : Hid (Sort.breakPatterns d a b = (brk a L M I0 d 3).2) := by show _ = _; rw [brk_whole d a b (by omega), hI, hM, hL]
  have HL : Hid (L = b - a ∧ M = 1 <<< bitsLen L ∧ I0 = a + L / 4 * 2 - 1) := ⟨hL, hM, hI⟩
  clear hM hI
  have hp : blk ≠ w.heap.size := by omega
  go_enter Tryz.func206, Tryz.ntmps206
  go_upto_region 2 with fail
  rw [show (b : Int) - a = (L : Int) by omega]
  clear hL
  go_upto_block 0 with (first
    | (go_at_call 176
       have q := fun v => pow_any L v (by omega)
       rw [← HL.out.2.1] at q
       refine (q _).mono ?_
       rintro e' w' ⟨rfl, rfl⟩))
  rw [show (a : Int) + (L : Int) / 4 * 2 - 1 = (I0 : Int) by omega]
  go_wp2_with fail
  go_loopg [9] 3 (fun k v9 wr => ∃ (t : Nat) (i : Nat), v9 = .int .i64 i ∧ i = I0 + t ∧ t ≤ 3 ∧ 3 - t = k ∧ (brk a L M I0 d t).2.size = d.size ∧ RK w wr blk ∧ Row wr blk off (brk a L M I0 d t).2 ∧ Rnd wr w.heap.size (brk a L M I0 d t).1.toNat)
  case atStart =>
    refine ⟨0, I0, rfl, rfl, by omega, rfl, rfl, RK.alloc _ _ _, HR.out.alloc _, ?_⟩
    have q : (UInt64.ofNat L).toNat = L := by rw [UInt64.toNat_ofNat']; omega
    show Rnd _ _ (UInt64.ofNat L).toNat
    rw [q]
    exact rnd_new w L _
  case round =>
    obtain ⟨t, i, rfl, hit, ht3, hgk, hse, hK, hRow, hRnd⟩ := hrel
    obtain ⟨e, he⟩ : ∃ e, e = (brk a L M I0 d t).2 := ⟨_, rfl⟩
    obtain ⟨X, hX⟩ : ∃ X, X = (brk a L M I0 d t).1.toNat := ⟨_, rfl⟩
    rw [← he] at hse hRow
    rw [← hX] at hRnd
    have hX64 : X < 18446744073709551616 := by rw [hX]; exact UInt64.toNat_lt _
    have HB : Hid (e = (brk a L M I0 d t).2 ∧ X = (brk a L M I0 d t).1.toNat) := ⟨he, hX⟩
    have H : Hid (RK w wr blk ∧ Row wr blk off e ∧ Rnd wr w.heap.size X) := ⟨hK, hRow, hRnd⟩
    clear hK hRow hRnd he hX
    by_cases ht : t < 3
    · obtain ⟨Y, hY⟩ : ∃ Y, Y = xorNextN X := ⟨_, rfl⟩
      have hY64 : Y < 18446744073709551616 := by rw [hY]; exact Sort.xorNextN_lt X hX64
      obtain ⟨o, ho⟩ : ∃ o, o = Y &&& (M - 1) := ⟨_, rfl⟩
      have hoM : o < M := by
        have q : Y &&& (M - 1) ≤ M - 1 := Nat.and_le_right
        omega
      have HO : Hid (Y = xorNextN X ∧ o = Y &&& (M - 1) ∧ bits .and .u64 (Y : Int) ((M : Int) - 1) = (o : Nat)) := ⟨hY, ho, by
        rw [show (M : Int) - 1 = ((M - 1 : Nat) : Int) by omega, and_nat _ _ hY64 (by omega), ho]⟩
      clear hY ho
      have hi1 : I0 ≤ i := by omega
      have hi2 : i ≤ I0 + 2 := by omega
      have HT : Hid (i = I0 + t) := hit
      clear hit
      go_upto_region 8 with (first
        | (go_at_call 177
           have q := next_any w.heap.size X wr H.out.2.2 hX64
           rw [← HO.out.1] at q
           refine q.mono ?_
           rintro e' w1 ⟨rfl, hK1, hR1⟩))
      rw [HO.out.2.2]
      have hK2 : RK w w1 blk := H.out.1.trans_new hK1 (Nat.le_refl _)
      have hRow2 : Row w1 blk off e := H.out.2.1.carry hK1 hp
      rw [show wrap64 (o : Int) = (o : Int) from IntWalk.wrap64_in _ (by omega)]
      have STEP : Hid (brk a L M I0 d (t + 1) = (xorNext (brk a L M I0 d t).1, swp e i (a + if o ≥ L then o - L else o)) ∧ (xorNext (brk a L M I0 d t).1).toNat = Y) := by
        have q : (xorNext (brk a L M I0 d t).1).toNat = Y := by rw [Sort.xorNext_toNat, ← HB.out.2, HO.out.1]
        refine ⟨?_, q⟩
        show breakStep a L M (brk a L M I0 d t) (I0 + t) = _
        unfold breakStep
        dsimp only
        rw [q, ← HO.out.2.1, ← HB.out.1, ← HT.out]
      have H1 : Hid (RK w w1 blk ∧ Row w1 blk off e ∧ Rnd w1 w.heap.size Y) := ⟨hK2, hRow2, by have q := hR1; exact q⟩
      obtain ⟨G, hG, hcell, hfro⟩ := hRow2.fam d.size hse
      have HG : Hid (∀ t, G t = e[t]!) := hG
      clear hK1 hR1 hK2 hRow2 hG
      by_cases hoL : (L : Int) ≤ o
      · obtain ⟨o2, ho2⟩ : ∃ o2, o2 = o - L := ⟨_, rfl⟩
        have ho3 : o2 < L := by omega
        have HO2 : Hid ((if o ≥ L then o - L else o) = o2) := by show _ = _; rw [if_pos (by omega), ho2]
        have hmid := mid_cell H1.out.2.1 i (a + o2) (by omega) (by omega) (G (a + o2)) (HG.out _)
        go_upto_region 10 with fail
        rw [show (o : Int) - L = (o2 : Int) by omega]
        clear ho2
        go_region
        all_goals go_wp2
        go_roundg (2 - t)
        case measure => omega
        case rel =>
          have st := swap_step H1.out.1 H1.out.2.1 1 i (a + o2) (by omega) (by omega) (G i) (G (a + o2)) (HG.out _) (HG.out _)
          have kk : RK w1 (((w1.drewN 1).setCell ⟨blk, off + i, none⟩ (.int .u64 (G (a + o2)))).setCell ⟨blk, off + (a + o2), none⟩ (.int .u64 (G i))) blk := ((RK.drewN _ _ _).trans (RK.setCell _ _ _ _)).trans (RK.setCell _ _ _ _)
          have cr := H1.out.2.2.carry kk (by omega)
          refine ⟨t + 1, i + 1, by go_num, by rw [HT.out]; rfl, by omega, by omega, ?_, st.1, ?_, ?_⟩
          · rw [STEP.out.1, swp_size]; exact hse
          · rw [STEP.out.1, HO2.out]; exact st.2
          · rw [STEP.out.1, STEP.out.2]; exact cr
      · have HO2 : Hid ((if o ≥ L then o - L else o) = o) := by show _ = _; rw [if_neg (by omega)]
        have hmid := mid_cell H1.out.2.1 i (a + o) (by omega) (by omega) (G (a + o)) (HG.out _)
        go_upto_region 10 with fail
        go_region
        all_goals go_wp2
        go_roundg (2 - t)
        case measure => omega
        case rel =>
          have st := swap_step H1.out.1 H1.out.2.1 1 i (a + o) (by omega) (by omega) (G i) (G (a + o)) (HG.out _) (HG.out _)
          have kk : RK w1 (((w1.drewN 1).setCell ⟨blk, off + i, none⟩ (.int .u64 (G (a + o)))).setCell ⟨blk, off + (a + o), none⟩ (.int .u64 (G i))) blk := ((RK.drewN _ _ _).trans (RK.setCell _ _ _ _)).trans (RK.setCell _ _ _ _)
          have cr := H1.out.2.2.carry kk (by omega)
          refine ⟨t + 1, i + 1, by go_num, by rw [HT.out]; rfl, by omega, by omega, ?_, st.1, ?_, ?_⟩
          · rw [STEP.out.1, swp_size]; exact hse
          · rw [STEP.out.1, HO2.out]; exact st.2
          · rw [STEP.out.1, STEP.out.2]; exact cr
    · have ht' : t = 3 := by omega
      have hi3 : i = I0 + 3 := by omega
      have hge : ¬ (i : Int) ≤ (a : Int) + L / 4 * 2 + 1 := by omega
      clear hi3 hit
      go_wp2_with fail
      go_end0
      rw [E.out]
      refine ⟨rfl, H.out.1, ?_⟩
      have q := HB.out.1
      rw [ht'] at q
      rw [← q]
      exact H.out.2.1
end Go.Proofs.YtmajlldfiiokoaaGreatDoor

/- slices' pdqsort at places: it sorts. -/
namespace Go.Proofs.YtmajlldfiiokoaaGreatDoor
open Go.ChangeShapes Go.WideShapes Go.ChangeAt Go.RowKit
open Go.Sort (swp ltInt PermIn SortedIn)
set_option linter.unusedVariables false

/-- What is sorted in the end. -/
def Fin (a b : Nat) (d : Array Int) (a' b' : Nat) (e : Array Int) : Prop := ∀ R, PermIn a' b' e R → SortedIn ltInt a' b' R → PermIn a b d R ∧ SortedIn ltInt a b R

theorem perm_trans {a b : Nat} {d e f : Array Int} (h : PermIn a b d e) (k : PermIn a b e f) : PermIn a b d f := Sort.permIn_trans _ _ _ _ _ h k

set_option maxHeartbeats 4000000 in
set_option maxRecDepth 100000 in
theorem pdq_any (blk off cap n : Nat) : ∀ (a b limit : Nat) (d : Array Int) (w : World), b - a ≤ n → Row w blk off d → a ≤ b → b ≤ d.size → blk < w.heap.size → d.size < 64 → limit < 64 → Sort.Below ltInt a b d →
    Calls Tryz.prog 170 #[.slice (some ⟨blk, off, none⟩) d.size cap, .int .i64 a, .int .i64 b, .int .i64 limit] w fun e w' =>
      e = .returned (.tuple #[]) ∧ RK w w' blk ∧ ∃ R, Row w' blk off R ∧ PermIn a b d R ∧ SortedIn ltInt a b R := by
  induction n using Nat.strongRecOn with
  | _ n ih =>
  intro a b limit d w hn hR hab hb hblk hsz hlim hB
  have H0 : Hid (Row w blk off d ∧ Sort.Below ltInt a b d) := ⟨hR, hB⟩
  have IH : Hid (∀ m, m < n → ∀ (a b limit : Nat) (d : Array Int) (w : World), b - a ≤ m → Row w blk off d → a ≤ b → b ≤ d.size → blk < w.heap.size → d.size < 64 → limit < 64 → Sort.Below ltInt a b d →
    Calls Tryz.prog 170 #[.slice (some ⟨blk, off, none⟩) d.size cap, .int .i64 a, .int .i64 b, .int .i64 limit] w fun e w' =>
      e = .returned (.tuple #[]) ∧ RK w w' blk ∧ ∃ R, Row w' blk off R ∧ PermIn a b d R ∧ SortedIn ltInt a b R) := ih
  clear hR hB ih
  go_enter Tryz.func170, Tryz.ntmps170
  go_wp2_with (fail)
  go_loopg [1, 2, 3, 8, 9] (b - a) (fun k v1 v2 v3 v8 v9 wr => ∃ (a' b' lim : Nat) (wb wp : Bool) (e : Array Int), v1 = .int .i64 a' ∧ v2 = .int .i64 b' ∧ v3 = .int .i64 lim ∧ v8 = .bool wb ∧ v9 = .bool wp ∧
      a' ≤ b' ∧ b' ≤ d.size ∧ b' - a' ≤ k ∧ b' - a' ≤ n ∧ lim < 64 ∧ e.size = d.size ∧ RK w wr blk ∧ Row wr blk off e ∧ Sort.Below ltInt a' b' e ∧ Fin a b d a' b' e)
  case atStart => exact ⟨a, b, limit, true, true, d, rfl, rfl, rfl, rfl, rfl, hab, hb, Nat.le_refl _, hn, hlim, rfl, RK.refl _ _, H0.out.1, H0.out.2, fun R h1 h2 => ⟨h1, h2⟩⟩
  case round =>
    clear H0
    obtain ⟨a', b', lim, wb, wp, e, rfl, rfl, rfl, rfl, rfl, hab', hb', hgk, hn', hlim', hse, hK, hRow, hBel, hFin⟩ := hrel
    have H : Hid (RK w wr blk ∧ Row wr blk off e ∧ Sort.Below ltInt a' b' e ∧ Fin a b d a' b' e) := ⟨hK, hRow, hBel, hFin⟩
    have hblk' : blk < wr.heap.size := Nat.lt_of_lt_of_le hblk hK.size
    clear hK hRow hBel hFin
    by_cases h12 : (b' : Int) - a' ≤ 12
    · go_wp2_with (first
        | (go_at_call 204
           have q := ins_any blk off cap a' b' e _ H.out.2.1 (by omega) (by omega) (by omega)
           rw [hse] at q
           refine q.mono ?_
           rintro e' w' ⟨rfl, hK', hR'⟩))
      refine bodyPost_ret (results_none rfl _ _ _) rfl ?_
      have s := Sort.insertionSort_holds (lt := ltInt) Sort.swo_ltInt e a' b' hab' (by omega)
      have f := H.out.2.2.2 _ s.1 s.2
      exact ⟨rfl, H.out.1.trans hK', _, hR', f.1, f.2⟩
    · by_cases hl0 : lim = 0
      · subst hl0
        go_wp2_with (first
          | (go_at_call 205
             have q := heap_any blk off cap a' b' e _ H.out.2.1 (by omega) (by omega) (by omega)
             rw [hse] at q
             refine q.mono ?_
             rintro e' w' ⟨rfl, hK', hR'⟩))
        refine bodyPost_ret (results_none rfl _ _ _) rfl ?_
        have s := Sort.heapSort_holds (lt := ltInt) Sort.swo_ltInt e a' b' hab' (by omega)
        have f := H.out.2.2.2 _ s.1 s.2
        exact ⟨rfl, H.out.1.trans hK', _, hR', f.1, f.2⟩
      · have hl1 : ((lim : Int) == 0) = false := by simp; omega
        have hab2 : a' + 12 < b' := by omega
        go_upto_if 35 with fail
        go_cut [3] from 19 to 133 (fun v3 wc => ∃ (lim' : Nat) (d1 : Array Int), v3 = .int .i64 lim' ∧ lim' < 64 ∧ PermIn a' b' e d1 ∧ RK w wc blk ∧ Row wc blk off d1)
        case first =>
          go_wp2_with (first
            | (go_at_call 206
               have q := break_any blk off cap a' b' e _ H.out.2.1 (by omega) (by omega) hblk' (by omega)
               rw [hse] at q
               refine q.mono ?_
               rintro e' w' ⟨rfl, hK', hR'⟩))
          · go_meet
            case rel => exact ⟨lim - 1, _, by congr 1; omega, by omega, Sort.breakPatterns_holds e a' b' hab' (by omega), H.out.1.trans hK', hR'⟩
          · go_meet
            case rel => exact ⟨lim, e, rfl, by omega, Sort.permIn_refl e a' b', H.out.1, H.out.2.1⟩
        case rest =>
          obtain ⟨lim', d1, rfl, hlim1, hP1, hK1, hRow1⟩ := hcut
          have hblk1 : blk < wc.heap.size := Nat.lt_of_lt_of_le hblk hK1.size
          have hs1 : d1.size = d.size := by rw [hP1.1]; exact hse
          obtain ⟨pv, hpv⟩ : ∃ pv, pv = (Sort.choosePivot ltInt d1 a' b').1 := ⟨_, rfl⟩
          obtain ⟨hn0, hhn⟩ : ∃ h, h = hintNo (Sort.choosePivot ltInt d1 a' b').2 := ⟨_, rfl⟩
          have pr := Sort.choosePivot_holds ltInt d1 a' b' (by omega)
          rw [← hpv] at pr
          obtain ⟨pr1, pr2⟩ := pr
          have H1 : Hid (PermIn a' b' e d1 ∧ RK w wc blk ∧ Row wc blk off d1 ∧ pv = (Sort.choosePivot ltInt d1 a' b').1 ∧ hn0 = hintNo (Sort.choosePivot ltInt d1 a' b').2) := ⟨hP1, hK1, hRow1, hpv, hhn⟩
          clear hP1 hK1 hRow1 hpv hhn
          go_upto_if 50 with (first
            | (go_at_call 207
               have q := pivot_any blk off cap a' b' d1 _ H1.out.2.2.1 (by omega) (by omega) hblk1 (by omega)
               rw [← H1.out.2.2.2.1, ← H1.out.2.2.2.2, hs1] at q
               refine q.mono ?_
               rintro e' w2 ⟨rfl, hK2, hR2⟩))
          have H2 : Hid (RK w w2 blk ∧ Row w2 blk off d1) := ⟨H1.out.2.1.trans hK2, hR2⟩
          clear hK2 hR2
          go_cut [11, 12] from 19 to 133 (fun v11 v12 wc => ∃ (pw h2 : Nat) (d2 : Array Int), v11 = .int .i64 pw ∧ v12 = .int .i64 h2 ∧ a' ≤ pw ∧ pw < b' ∧ PermIn a' b' e d2 ∧ RK w wc blk ∧ Row wc blk off d2)
          case first =>
            go_wp2_with (first
              | (go_at_call 208
                 have q := rev_any blk off cap a' b' d1 _ H2.out.2 (by omega) (by omega) (by omega)
                 rw [hs1] at q
                 refine q.mono ?_
                 rintro e' w' ⟨rfl, hK', hR'⟩))
            · go_meet
              case rel => exact ⟨(b' - 1) - (pv - a'), 1, _, by congr 1; omega, rfl, by omega, by omega, perm_trans H1.out.1 (Sort.reverseRange_holds d1 a' b' hab' (by omega)), H2.out.1.trans hK', hR'⟩
            · go_meet
              case rel => exact ⟨pv, hn0, d1, rfl, rfl, pr1, pr2, H1.out.1, H2.out.1, H2.out.2⟩
          case rest =>
            clear H1 H2 pr1 pr2 hs1 hblk1
            obtain ⟨pw, h2, d2, rfl, rfl, pw1, pw2, hP2, hK2, hRow2⟩ := hcut
            have hs2 : d2.size = d.size := by rw [hP2.1]; exact hse
            have H2 : Hid (PermIn a' b' e d2 ∧ RK w wc blk ∧ Row wc blk off d2) := ⟨hP2, hK2, hRow2⟩
            clear hP2 hK2 hRow2
            go_upto_region 15 with fail
            go_cut [68] from 19 to 133 (fun v68 wd => ∃ x : Bool, v68 = .bool x ∧ RK w wd blk ∧ Row wd blk off d2)
            case first =>
              cases wb <;> cases wp <;> go_wp2_with fail
              all_goals go_meet
              all_goals exact ⟨_, rfl, H2.out.2.1, H2.out.2.2⟩
            case rest =>
              obtain ⟨x, rfl, hK3, hRow3⟩ := hcut
              have H3 : Hid (RK w wc blk ∧ Row wc blk off d2) := ⟨hK3, hRow3⟩
              clear hK3 hRow3
              go_upto_if 68 with fail
              go_cut [] from 19 to 133 (fun wd => ∃ d3 : Array Int, PermIn a' b' e d3 ∧ RK w wd blk ∧ Row wd blk off d3)
              case first =>
                have HP : Hid (PermIn a' b' d2 (Sort.partialInsertionSort ltInt d2 a' b').1 ∧ ((Sort.partialInsertionSort ltInt d2 a' b').2 = true → SortedIn ltInt a' b' (Sort.partialInsertionSort ltInt d2 a' b').1)) :=
                  Sort.partialInsertionSort_holds (lt := ltInt) Sort.swo_ltInt d2 a' b' (by omega) (by omega) (H.out.2.2.1.perm (by omega) H2.out.1)
                obtain ⟨fl, hfl⟩ : ∃ fl, fl = (Sort.partialInsertionSort ltInt d2 a' b').2 := ⟨_, rfl⟩
                have HF : Hid (fl = (Sort.partialInsertionSort ltInt d2 a' b').2) := hfl
                clear hfl
                cases x
                · go_wp2_with fail
                  go_meet
                  case rel => exact ⟨d2, H2.out.1, H3.out.1, H3.out.2⟩
                · cases fl
                  · go_wp2_with (first
                      | (go_at_call 209
                         have q := pins_any blk off cap a' b' d2 _ H3.out.2 (by omega) (by omega) (by omega)
                         rw [hs2, ← HF.out] at q
                         refine q.mono ?_
                         rintro e' w' ⟨rfl, hK', hR'⟩))
                    go_meet
                    case rel => exact ⟨_, perm_trans H2.out.1 HP.out.1, H3.out.1.trans hK', hR'⟩
                  · go_wp2_with (first
                      | (go_at_call 209
                         have q := pins_any blk off cap a' b' d2 _ H3.out.2 (by omega) (by omega) (by omega)
                         rw [hs2, ← HF.out] at q
                         refine q.mono ?_
                         rintro e' w' ⟨rfl, hK', hR'⟩))
                    refine bodyPost_ret (results_none rfl _ _ _) rfl ?_
                    have f := H.out.2.2.2 _ (perm_trans H2.out.1 HP.out.1) (HP.out.2 HF.out.symm)
                    exact ⟨rfl, H3.out.1.trans hK', _, hR', f.1, f.2⟩
              case rest =>
                clear H2 H3 hs2
                obtain ⟨d3, hP3, hK3, hRow3⟩ := hcut
                have hs3 : d3.size = d.size := by rw [hP3.1]; exact hse
                obtain ⟨G, hG, hcell, hfro⟩ := hRow3.fam d.size hs3
                have H3 : Hid (PermIn a' b' e d3 ∧ RK w wc blk ∧ Row wc blk off d3 ∧ ∀ t, G t = d3[t]!) := ⟨hP3, hK3, hRow3, hG⟩
                clear hP3 hK3 hRow3 hG
                go_upto_region 17 with fail
                go_cut [87] from 19 to 133 (fun v87 wd => ∃ x : Bool, v87 = .bool x ∧ (x = true → 0 < a' ∧ ltInt d3[a' - 1]! d3[pw]! = false) ∧ RK w wd blk ∧ Row wd blk off d3)
                case first =>
                  by_cases ha0 : 0 < a'
                  · go_quiet (first | (go_at_call 210; refine Calls.quiet_of_same (less_any _ _ _)))
                    go_wp2_with fail
                    go_meet
                    case rel =>
                      have st := still_step H3.out.2.1 H3.out.2.2.1 nq
                      exact ⟨_, rfl, fun q => ⟨by omega, by rw [← H3.out.2.2.2, ← H3.out.2.2.2]; exact not_true_of q⟩, st.1, st.2⟩
                  · go_quiet (first | (go_at_call 210; refine Calls.quiet_of_same (less_any _ _ _)))
                    go_wp2_with fail
                    go_meet
                    case rel =>
                      have st := still_step H3.out.2.1 H3.out.2.2.1 nq
                      exact ⟨false, rfl, fun q => absurd q (by decide), st.1, st.2⟩
                case rest =>
                  obtain ⟨x, rfl, hx, hK4, hRow4⟩ := hcut
                  have hblk4 : blk < wc.heap.size := Nat.lt_of_lt_of_le hblk hK4.size
                  have H4 : Hid (PermIn a' b' e d3 ∧ RK w wc blk ∧ Row wc blk off d3 ∧ (x = true → 0 < a' ∧ ltInt d3[a' - 1]! d3[pw]! = false) ∧ Sort.Below ltInt a' b' d3) := ⟨H3.out.1, hK4, hRow4, hx, H.out.2.2.1.perm (by omega) H3.out.1⟩
                  have HFin : Hid (Fin a b d a' b' e) := H.out.2.2.2
                  clear H3 hx hK4 hRow4 hcell hfro H
                  cases x
                  · obtain ⟨mid, hmid⟩ : ∃ mid, mid = (Sort.partition ltInt d3 a' b' pw).1 := ⟨_, rfl⟩
                    obtain ⟨ap, hap⟩ : ∃ ap, ap = (Sort.partition ltInt d3 a' b' pw).2.1 := ⟨_, rfl⟩
                    obtain ⟨d4, hd4⟩ : ∃ d4, d4 = (Sort.partition ltInt d3 a' b' pw).2.2 := ⟨_, rfl⟩
                    have RP := Sort.round_part (lt := ltInt) Sort.swo_ltInt (Sort.partition_holds ltInt) pw1 pw2 (show b' ≤ d3.size by omega) H4.out.2.2.2.2 (show Sort.partition ltInt d3 a' b' pw = (mid, ap, d4) by rw [hmid, hap, hd4])
                    obtain ⟨m1, m2, hs4, hB1, hB2, hL, hRr⟩ := RP
                    have hs5 : d4.size = d.size := by rw [hs4]; exact hs3
                    have HPt : Hid (mid = (Sort.partition ltInt d3 a' b' pw).1 ∧ ap = (Sort.partition ltInt d3 a' b' pw).2.1 ∧ d4 = (Sort.partition ltInt d3 a' b' pw).2.2) := ⟨hmid, hap, hd4⟩
                    have H5 : Hid (Sort.Below ltInt a' mid d4 ∧ Sort.Below ltInt (mid + 1) b' d4 ∧
                        (∀ L, PermIn a' mid d4 L → SortedIn ltInt a' mid L → Sort.Below ltInt (mid + 1) b' L ∧ ∀ R, PermIn (mid + 1) b' L R → SortedIn ltInt (mid + 1) b' R → PermIn a' b' d3 R ∧ SortedIn ltInt a' b' R) ∧
                        (∀ L, PermIn (mid + 1) b' d4 L → SortedIn ltInt (mid + 1) b' L → Sort.Below ltInt a' mid L ∧ ∀ R, PermIn a' mid L R → SortedIn ltInt a' mid R → PermIn a' b' d3 R ∧ SortedIn ltInt a' b' R)) := ⟨hB1, hB2, hL, hRr⟩
                    clear hmid hap hd4 hB1 hB2 hL hRr hs4
                    go_upto_if 113 with (first
                      | (go_at_call 212
                         have q := part_any blk off cap a' b' pw d3 _ H4.out.2.2.1 (by omega) (by omega) (by omega) (by omega)
                         rw [← HPt.out.1, ← HPt.out.2.1, ← HPt.out.2.2, hs3] at q
                         refine q.mono ?_
                         rintro e' w5 ⟨rfl, hK5, hR5⟩))
                    have H6 : Hid (RK w w5 blk ∧ Row w5 blk off d4) := ⟨H4.out.2.1.trans hK5, hR5⟩
                    have hblk5 : blk < w5.heap.size := Nat.lt_of_lt_of_le hblk H6.out.1.size
                    clear hK5 hR5
                    by_cases hlr : (mid : Int) - a' < (b' : Int) - mid
                    · go_wp2_with (first
                        | (go_at_call 170
                           have q := IH.out (mid - a') (by omega) a' mid lim' d4 _ (Nat.le_refl _) H6.out.2 (by omega) (by omega) hblk5 (by omega) hlim1 H5.out.1
                           rw [hs5] at q
                           refine q.mono ?_
                           rintro e' w6 ⟨rfl, hK6, R6, hR6, hP6, hS6⟩))
                      go_roundg (b' - (mid + 1))
                      case measure => omega
                      case rel =>
                        have f := H5.out.2.2.1 R6 hP6 hS6
                        exact ⟨mid + 1, b', lim', _, ap, R6, by go_num, rfl, rfl, rfl, rfl, by omega, by omega, by omega, by omega, hlim1, by rw [hP6.1]; exact hs5, H6.out.1.trans hK6, hR6, f.1, fun R h1 h2 => HFin.out R (perm_trans H4.out.1 (f.2 R h1 h2).1) (f.2 R h1 h2).2⟩
                    · go_wp2_with (first
                        | (go_at_call 170
                           have q := IH.out (b' - (mid + 1)) (by omega) (mid + 1) b' lim' d4 _ (Nat.le_refl _) H6.out.2 (by omega) (by omega) hblk5 (by omega) hlim1 H5.out.2.1
                           rw [hs5] at q
                           refine q.mono ?_
                           rintro e' w6 ⟨rfl, hK6, R6, hR6, hP6, hS6⟩))
                      go_roundg (mid - a')
                      case measure => omega
                      case rel =>
                        have f := H5.out.2.2.2 R6 hP6 hS6
                        exact ⟨a', mid, lim', _, ap, R6, rfl, rfl, rfl, rfl, rfl, by omega, by omega, by omega, by omega, hlim1, by rw [hP6.1]; exact hs5, H6.out.1.trans hK6, hR6, f.1, fun R h1 h2 => HFin.out R (perm_trans H4.out.1 (f.2 R h1 h2).1) (f.2 R h1 h2).2⟩
                  · obtain ⟨mid, hmid⟩ : ∃ mid, mid = (Sort.partitionEqual ltInt d3 a' b' pw).1 := ⟨_, rfl⟩
                    obtain ⟨d4, hd4⟩ : ∃ d4, d4 = (Sort.partitionEqual ltInt d3 a' b' pw).2 := ⟨_, rfl⟩
                    have hx := H4.out.2.2.2.1 rfl
                    have RE := Sort.round_eq (lt := ltInt) Sort.swo_ltInt (Sort.partitionEqual_holds ltInt) hx.1 pw1 pw2 (show b' ≤ d3.size by omega) H4.out.2.2.2.2 hx.2 (show Sort.partitionEqual ltInt d3 a' b' pw = (mid, d4) by rw [hmid, hd4])
                    obtain ⟨m1, m2, hs4, hB1, hL⟩ := RE
                    have hs5 : d4.size = d.size := by rw [hs4]; exact hs3
                    have HPt : Hid (mid = (Sort.partitionEqual ltInt d3 a' b' pw).1 ∧ d4 = (Sort.partitionEqual ltInt d3 a' b' pw).2) := ⟨hmid, hd4⟩
                    have H5 : Hid (Sort.Below ltInt mid b' d4 ∧ ∀ R, PermIn mid b' d4 R → SortedIn ltInt mid b' R → PermIn a' b' d3 R ∧ SortedIn ltInt a' b' R) := ⟨hB1, hL⟩
                    clear hmid hd4 hB1 hL hs4 hx
                    go_wp2_with (first
                      | (go_at_call 211
                         have q := parteq_any blk off cap a' b' pw d3 _ H4.out.2.2.1 (by omega) (by omega) (by omega) (by omega)
                         rw [← HPt.out.1, ← HPt.out.2, hs3] at q
                         refine q.mono ?_
                         rintro e' w5 ⟨rfl, hK5, hR5⟩))
                    go_roundg (b' - mid)
                    case measure => omega
                    case rel =>
                      exact ⟨mid, b', lim', _, _, d4, rfl, rfl, rfl, rfl, rfl, by omega, by omega, by omega, by omega, hlim1, hs5, H4.out.2.1.trans hK5, hR5, H5.out.1, fun R h1 h2 => HFin.out R (perm_trans H4.out.1 (H5.out.2 R h1 h2).1) (H5.out.2 R h1 h2).2⟩
end Go.Proofs.YtmajlldfiiokoaaGreatDoor

/- Slices of places; slices.Clone and slices.Sort at places. -/
namespace Go.Proofs.YtmajlldfiiokoaaGreatDoor
open Go.ChangeShapes Go.WideShapes Go.ChangeAt Go.RowKit
open Go.Sort (swp ltInt PermIn SortedIn bitsLen)
set_option linter.unusedVariables false

/-- A slice of n numbers that holds l. -/
def IdsAt (w : World) (a : Option Addr) (n : Nat) (l : List Int) : Prop :=
  l.length = n ∧ (n = 0 ∨ ∃ b o, a = some ⟨b, o, none⟩ ∧ ∀ j, j < n → w.cell? ⟨b, o + j, none⟩ = some (.int .u64 (l.getD j 0)))

theorem block_of_cell {w : World} {a : Addr} {v : Value} (h : w.cell? a = some v) : a.block < w.heap.size := by
  rcases Nat.lt_or_ge a.block w.heap.size with q | q
  · exact q
  · simp [World.cell?, Array.getElem?_eq_none q] at h

theorem IdsAt.carry {w w' : World} {a : Option Addr} {n : Nat} {l : List Int} (h : IdsAt w a n l) (hb : Below w.heap.size w w') : IdsAt w' a n l := by
  obtain ⟨h1, h2⟩ := h
  refine ⟨h1, ?_⟩
  rcases h2 with h2 | ⟨b, o, ha, hc⟩
  · exact .inl h2
  · refine .inr ⟨b, o, ha, fun j hj => ?_⟩
    have q := hb.block b (block_of_cell (hc j hj))
    rw [← hc j hj]
    exact World.cell?_of_block q

theorem Row.ids {w : World} {g : Nat} {d : Array Int} (h : Row w g 0 d) (n : Nat) (hn : n ≤ d.size) : IdsAt w (some ⟨g, 0, none⟩) n (d.toList.take n) := by
  refine ⟨by simp; omega, .inr ⟨g, 0, rfl, fun j hj => ?_⟩⟩
  rw [(h j (by omega)).1]
  congr 2
  rw [List.getD_eq_getElem?_getD, List.getElem?_take, if_pos hj, getElem!_pos d j (by omega)]
  simp [show j < d.size by omega]

/-- A slice of the call's own: nil, or a row from block B on. -/
def OwnIds (B : Nat) (w : World) (v : Value) (l : List Int) : Prop :=
  (v = .slice none 0 0 ∧ l = []) ∨ ∃ g c, v = .slice (some ⟨g, 0, none⟩) l.length c ∧ l.length ≤ c ∧ B ≤ g ∧ g < w.heap.size ∧ Row w g 0 l.toArray

theorem row_of_cells {w : World} {g : Nat} {cur : Array Value} {t : TypeId} (h : w.heap[g]? = some (.cells cur t (0, 0))) (l : List Int) (n : Nat) (hn : l.length = n) (ht : cur.toList.take n = l.map (Value.int .u64)) : Row w g 0 l.toArray := by
  intro j hj
  have hj' : j < l.length := by simpa using hj
  refine ⟨?_, by simp [World.frozen?, h]⟩
  have q : (cur.toList.take n)[j]? = some (Value.int .u64 l[j]) := by rw [ht, List.getElem?_map, List.getElem?_eq_getElem hj']; rfl
  rw [List.getElem?_take, if_pos (by omega)] at q
  simp only [World.cell?, h]
  simp only [Nat.zero_add]
  rw [← Array.getElem?_toList, q]
  simp [hj']

theorem own_of_row {B : Nat} {w : World} {v : Value} {t : TypeId} {l : List Int} {n : Nat} (hn : l.length = n) (h : w.ownsRow B t 1 v n (l.map (Value.int .u64))) : OwnIds B w v l := by
  obtain ⟨h1, h2⟩ := h
  subst hn
  rcases h2 with ⟨rfl, h0⟩ | ⟨g, c, cur, rfl, hB, hg, hc, hm, hs, ht⟩
  · exact .inl ⟨rfl, List.eq_nil_of_length_eq_zero h0⟩
  · refine .inr ⟨g, c, rfl, hc, hB, ?_, row_of_cells hg l _ rfl (by simpa using ht)⟩
    rcases Nat.lt_or_ge g w.heap.size with q | q
    · exact q
    · rw [Array.getElem?_eq_none q] at hg; cases hg

theorem below_of_grown {B : Nat} {w w1 w2 : World} {row : Option Nat} (h : Below B w w1) (hB : B ≤ w1.heap.size) (hg : w1.grownBy w2 row) (hrow : ∀ k, row = some k → B ≤ k) : Below B w w2 :=
  h.trans ⟨hg.os, hg.tape, hg.output, hg.size, fun k hk => hg.block k (by omega) (fun e => by have := hrow k e.symm; omega)⟩

theorem Tryz.infoId : (Tryz.prog.info? 59).map (fun i => (i.zero, i.size, i.bytes)) = some (some (.int .u64 0), 1, 8) := by kernel_rfl
theorem info_parts' {P : Program} {t : TypeId} {z : Value} {s b : Nat} (h : (P.info? t).map (fun i => (i.zero, i.size, i.bytes)) = some (some z, s, b)) : ∃ i, P.info? t = some i ∧ i.zero = some z ∧ i.size = s ∧ i.bytes = b := by
  cases hi : P.info? t with
  | none => rw [hi] at h; cases h
  | some i => rw [hi] at h; simp at h; exact ⟨i, rfl, h.1, h.2.1, h.2.2⟩

theorem src_ids {w : World} {x : Addr} {n c : Nat} {l : List Int} (h : IdsAt w (some x) n l) : Src Tryz.prog 1 22 (.slice (some x) n c) n (l.map (Value.int .u64)) w := by
  refine Src.ofSlice (e' := 59) w Tryz.underlying22 x n c _ (by simp [h.1]) ?_ ?_
  · intro j u hu
    rw [List.getElem?_map] at hu
    cases hj : l[j]? with
    | none => rw [hj] at hu; cases hu
    | some y =>
      rw [hj] at hu
      cases hu
      have hjl : j < l.length := (List.getElem?_eq_some_iff.1 hj).1
      rcases h.2 with h0 | ⟨b, o, ha, hc⟩
      · rw [h.1, h0] at hjl; omega
      · cases ha
        have q := hc j (by rw [← h.1]; exact hjl)
        rw [show Addr.add ⟨b, o, none⟩ j = ⟨b, o + j, none⟩ from by unfold Addr.add; split <;> simp_all, q, List.getD_eq_getElem?_getD, hj]; rfl
  · intro u hu
    obtain ⟨y, _, rfl⟩ := List.mem_map.1 hu
    rfl

theorem clone_any (a : Option Addr) (n cap : Nat) (l : List Int) (w : World) (h : IdsAt w a n l) (hn : n < 64) :
    Calls Tryz.prog 130 #[.slice a n cap] w fun e w' => ∃ v, e = .returned v ∧ Below w.heap.size w w' ∧ OwnIds w.heap.size w' v l := by
  obtain ⟨i0, hi, hz0, hz1, hz2⟩ := info_parts' Tryz.infoId
  cases a with
  | none =>
    have h0 : n = 0 := by rcases h.2 with h0 | ⟨b, o, ha, _⟩; exact h0; cases ha
    subst h0
    have hl : l = [] := List.eq_nil_of_length_eq_zero h.1
    subst hl
    have hnil := fun w : World => Lib.run_eql_slice_nil (P := Tryz.prog) w 22 59 none 0 cap 0 0 Tryz.underlying22
    go_enter Tryz.func130, Tryz.ntmps130
    go_wp2
    go_ret
    exact ⟨_, rfl, Below.refl _ _, .inl ⟨rfl, rfl⟩⟩
  | some x =>
    have hsrc := src_ids (c := cap) h
    have HS : Hid (IdsAt w (some x) n l) := h
    have hown : (w.alloc (.cells #[] 59)).ownsRow w.heap.size 59 1 (.slice (some ⟨w.heap.size, 0, none⟩) 0 0) 0 [] :=
      ⟨rfl, .inr ⟨w.heap.size, 0, #[], rfl, Nat.le_refl _, by have := heap_alloc_new w (.cells #[] 59); simpa using this, Nat.le_refl _, Nat.zero_le _, rfl, rfl⟩⟩
    have b0 : Below w.heap.size w (w.alloc (.cells #[] 59)) := (Below.refl _ _).alloc (Nat.le_refl _) _
    have h1 : IdsAt (w.alloc (.cells #[] 59)) (some x) n l := h.carry b0
    have hsrc1 := src_ids (c := cap) h1
    clear h hsrc
    have hnil := fun w : World => Lib.run_eql_slice_nil (P := Tryz.prog) w 22 59 (some x) n cap 0 0 Tryz.underlying22
    go_enter Tryz.func130, Tryz.ntmps130
    go_wp2_with (at_builtin; refine wpList_own_append _ rfl _ _ 22 22 rfl w.heap.size 59 i0 (.int .u64 0) 8 Tryz.underlying22 hi hz0 hz1 hz2 rfl _ _ _ rfl hown _ n (l.map (Value.int .u64)) rfl hsrc1 ?c3 ?c4 ?c5 ?_)
    case c3 => unfold maxLen; omega
    case c4 => omega
    case c5 => simp
    intro v' w1 ha
    obtain ⟨a', c', hv'⟩ := ha.shape
    have hr := ha.row
    have hb : Below w.heap.size w w1 := below_of_grown b0 (by simp) ha.grown (fun k hk => by simp [Value.ownBlock] at hk; omega)
    have H : Hid (Below w.heap.size w w1 ∧ OwnIds w.heap.size w1 v' l) := ⟨hb, own_of_row HS.out.1 hr⟩
    clear ha hr hb
    go_wp2
    go_ret
    exact ⟨_, rfl, H.out.1, H.out.2⟩

theorem ins_nil (w : World) : Calls Tryz.prog 204 #[.slice none 0 0, .int .i64 0, .int .i64 0] w fun e w' => e = .returned (.tuple #[]) ∧ w' = w := by
  go_enter Tryz.func204, Tryz.ntmps204
  go_wp2
  go_loopg [6] 0 (fun k vi wr => vi = .int .i64 1 ∧ wr = w)
  case atStart => exact ⟨rfl, rfl⟩
  case round =>
    obtain ⟨rfl, rfl⟩ := hrel
    go_wp2
    go_end0
    exact ⟨rfl, rfl⟩
set_option maxRecDepth 100000 in
theorem pdq_nil (limit : Int) (w : World) : Calls Tryz.prog 170 #[.slice none 0 0, .int .i64 0, .int .i64 0, .int .i64 limit] w fun e w' => e = .returned (.tuple #[]) ∧ w' = w := by
  go_enter Tryz.func170, Tryz.ntmps170
  go_wp2_with fail
  go_loopg [1, 2, 3, 8, 9] 0 (fun k v1 v2 v3 v8 v9 wr => v1 = .int .i64 0 ∧ v2 = .int .i64 0 ∧ v3 = .int .i64 limit ∧ v8 = .bool true ∧ v9 = .bool true ∧ wr = w)
  case atStart => exact ⟨rfl, rfl, rfl, rfl, rfl, rfl⟩
  case round =>
    obtain ⟨rfl, rfl, rfl, rfl, rfl, rfl⟩ := hrel
    go_wp2_with (first
      | (go_at_call 204; refine (ins_nil _).mono ?_; rintro e' w' ⟨rfl, rfl⟩))
    refine bodyPost_ret (results_none rfl _ _ _) rfl ?_
    exact ⟨rfl, rfl⟩
theorem sort_nil (w : World) : Calls Tryz.prog 131 #[.slice none 0 0] w fun e w' => e = .returned (.tuple #[]) ∧ w' = w := by
  go_enter Tryz.func131, Tryz.ntmps131
  go_wp2_with (first
    | (go_at_call 101; refine (len_any 0 _ (by decide) (by decide)).mono ?_; rintro e' w' ⟨rfl, rfl⟩)
    | (go_at_call 170; refine (pdq_nil _ _).mono ?_; rintro e' w' ⟨rfl, rfl⟩))
  go_end0
  exact ⟨rfl, rfl⟩

theorem sort_any (blk cap : Nat) (d : Array Int) (w : World) (hR : Row w blk 0 d) (hblk : blk < w.heap.size) (hsz : d.size < 64) :
    Calls Tryz.prog 131 #[.slice (some ⟨blk, 0, none⟩) d.size cap] w fun e w' =>
      e = .returned (.tuple #[]) ∧ RK w w' blk ∧ ∃ R, Row w' blk 0 R ∧ PermIn 0 d.size d R ∧ SortedIn ltInt 0 d.size R := by
  have HR : Hid (Row w blk 0 d) := hR
  have hlen : bitsLen d.size < 64 := by
    have q : ∀ n, n < 64 → bitsLen n < 64 := by decide
    exact q _ hsz
  clear hR
  go_enter Tryz.func131, Tryz.ntmps131
  go_wp2_with (first
    | (go_at_call 101
       have q := len_any d.size w (by omega) (by omega)
       rw [Int.toNat_natCast] at q
       refine q.mono ?_
       rintro e' w' ⟨rfl, rfl⟩)
    | (go_at_call 170
       refine (pdq_any blk 0 cap d.size 0 d.size (bitsLen d.size) d _ (by omega) HR.out (Nat.zero_le _) (Nat.le_refl _) hblk hsz hlen (Or.inl rfl)).mono ?_
       rintro e' w2 ⟨rfl, hK2, hR2⟩))
  go_end0
  exact ⟨rfl, hK2, hR2⟩
end Go.Proofs.YtmajlldfiiokoaaGreatDoor

/- slices.Compact at rising places: each once. -/
namespace Go.Proofs.YtmajlldfiiokoaaGreatDoor
open Go.ChangeShapes Go.WideShapes Go.ChangeAt Go.RowKit
open Go.Sort (swp ltInt PermIn SortedIn bitsLen)
set_option linter.unusedVariables false

def Strict (e : Array Int) (k : Nat) : Prop := ∀ i j, i < j → j < k → e[i]! < e[j]!
def Mem (e : Array Int) (k : Nat) (d : Array Int) (t : Nat) : Prop := ∀ x, (∃ i, i < k ∧ e[i]! = x) ↔ (∃ i, i < t ∧ d[i]! = x)

theorem strict_more {d : Array Int} {k : Nat} (h : Strict d k) (hk : 1 ≤ k) (hlt : d[k - 1]! < d[k]!) : Strict d (k + 1) := by
  intro i j hij hj
  by_cases q : j < k
  · exact h i j hij q
  · obtain rfl : j = k := by omega
    by_cases q2 : i = j - 1
    · rw [q2]; exact hlt
    · exact Int.lt_trans (h i (j - 1) (by omega) (by omega)) hlt
theorem mem_same {e d : Array Int} {k t : Nat} (h : Mem e k d t) (ht : 1 ≤ t) (he : d[t]! = d[t - 1]!) : Mem e k d (t + 1) := by
  intro x
  rw [h x]
  constructor
  · rintro ⟨i, hi, rfl⟩; exact ⟨i, by omega, rfl⟩
  · rintro ⟨i, hi, rfl⟩
    by_cases q : i < t
    · exact ⟨i, q, rfl⟩
    · obtain rfl : i = t := by omega
      exact ⟨i - 1, by omega, he.symm⟩
theorem setAt_other {e : Array Int} {k : Nat} {y : Int} (j : Nat) (h : j ≠ k) : (e.setIfInBounds k y)[j]! = e[j]! := Go.Sort.getElem!_set_other _ _ _ _ h
theorem setAt_same {e : Array Int} {k : Nat} {y : Int} (h : k < e.size) : (e.setIfInBounds k y)[k]! = y := Go.Sort.getElem!_set_same _ _ _ h
theorem strict_set {e : Array Int} {k : Nat} {y : Int} (h : Strict e k) (hk : 1 ≤ k) (hs : k < e.size) (hlt : e[k - 1]! < y) : Strict (e.setIfInBounds k y) (k + 1) := by
  refine strict_more ?_ hk ?_
  · intro i j hij hj
    rw [setAt_other i (by omega), setAt_other j (by omega)]; exact h i j hij hj
  · rw [setAt_other (k - 1) (by omega), setAt_same hs]; exact hlt
theorem mem_set {e d : Array Int} {k t : Nat} (h : Mem e k d t) (hs : k < e.size) : Mem (e.setIfInBounds k d[t]!) (k + 1) d (t + 1) := by
  intro x
  constructor
  · rintro ⟨i, hi, rfl⟩
    by_cases q : i = k
    · subst q; rw [setAt_same hs]; exact ⟨t, by omega, rfl⟩
    · rw [setAt_other i q]
      obtain ⟨j, hj, e1⟩ := (h e[i]!).1 ⟨i, by omega, rfl⟩
      exact ⟨j, by omega, e1⟩
  · rintro ⟨i, hi, rfl⟩
    by_cases q : i = t
    · subst q; exact ⟨k, by omega, setAt_same hs⟩
    · obtain ⟨j, hj, e1⟩ := (h d[i]!).2 ⟨i, by omega, rfl⟩
      exact ⟨j, by omega, by rw [setAt_other j (by omega)]; exact e1⟩

theorem Row.set {w : World} {blk off : Nat} {d : Array Int} (h : Row w blk off d) (k : Nat) (hk : k < d.size) (y : Int) : Row (w.setCell ⟨blk, off + k, none⟩ (.int .u64 y)) blk off (d.setIfInBounds k y) := by
  intro j hj
  rw [Array.size_setIfInBounds] at hj
  refine ⟨?_, by rw [World.frozen?_setCell]; exact (h j hj).2⟩
  by_cases q : j = k
  · subst q; rw [setAt_same hk]; exact World.cell?_setCell_same' _ _ _ (by rw [(h j hj).1]; rfl)
  · rw [setAt_other j q, cell_other _ _ _ _ _ (by omega)]; exact (h j hj).1
theorem Row.front {w : World} {blk off : Nat} {d : Array Int} (h : Row w blk off d) (k : Nat) (vs : List Value) (hk : k ≤ d.size) : Row (w.setCells blk (off + k) vs) blk off (d.extract 0 k) := by
  intro j hj
  have hj' : j < k := by simp at hj; omega
  refine ⟨?_, by rw [World.frozen?_setCells]; exact (h j (by omega)).2⟩
  rw [World.cell?_setCells_out _ _ _ _ _ (fun _ _ => Or.inl (by show off + j < off + k; omega)), (h j (by omega)).1]
  congr 2
  rw [getElem!_pos d j (by omega), getElem!_pos (d.extract 0 k) j hj]
  simp
theorem RK.setCells (blk : Nat) : ∀ (vs : List Value) (o : Nat) (w : World), RK w (w.setCells blk o vs) blk
  | [], _, w => RK.refl w blk
  | v :: r, o, w => (RK.setCell w blk o v).trans (RK.setCells blk r (o + 1) _)
theorem strict_front {d : Array Int} {k : Nat} (h : Strict d k) (hk : k ≤ d.size) : Strict (d.extract 0 k) k := by
  intro i j hij hj
  rw [getElem!_pos (d.extract 0 k) i (by simp; omega), getElem!_pos (d.extract 0 k) j (by simp; omega)]
  have q := h i j hij hj
  rw [getElem!_pos d i (by omega), getElem!_pos d j (by omega)] at q
  simpa using q
theorem mem_front {e d : Array Int} {k t : Nat} (h : Mem e k d t) (hk : k ≤ e.size) : Mem (e.extract 0 k) k d t := by
  intro x
  rw [← h x]
  constructor
  all_goals
    rintro ⟨i, hi, rfl⟩
    refine ⟨i, hi, ?_⟩
    rw [getElem!_pos (e.extract 0 k) i (by simp; omega), getElem!_pos e i (by omega)]
    simp

theorem zero_sid (w : World) : (zeroValue 59).run Tryz.prog w = .ok (.int .u64 0) w := by kernel_rfl

set_option maxHeartbeats 1000000 in
theorem compact_any (blk off cap : Nat) (d : Array Int) (w : World) (hR : Row w blk off d) (hcap : d.size ≤ cap) (hsz : d.size < 64) (hs : ∀ i j, i < j → j < d.size → d[i]! ≤ d[j]!) :
    Calls Tryz.prog 132 #[.slice (some ⟨blk, off, none⟩) d.size cap] w fun e w' =>
      ∃ R : Array Int, e = .returned (.slice (some ⟨blk, off, none⟩) R.size cap) ∧ R.size ≤ cap ∧ R.size < 64 ∧ RK w w' blk ∧ Row w' blk off R ∧ Strict R R.size ∧ Mem R R.size d d.size := by
  have H0 : Hid (Row w blk off d ∧ ∀ i j, i < j → j < d.size → d[i]! ≤ d[j]!) := ⟨hR, hs⟩
  clear hR hs
  go_enter Tryz.func132, Tryz.ntmps132
  by_cases h2 : (d.size : Int) < 2
  · go_wp2
    go_ret
    exact ⟨d, rfl, hcap, hsz, RK.refl _ _, H0.out.1, fun i j hij hj => by omega, fun x => Iff.rfl⟩
  · go_wp2_with fail
    go_loopg [3] d.size (fun n v3 wr => ∃ k : Nat, v3 = .int .i64 k ∧ 1 ≤ k ∧ k ≤ d.size ∧ d.size - k ≤ n ∧ RK w wr blk ∧ Row wr blk off d ∧ Strict d k)
    case atStart => exact ⟨1, rfl, Nat.le_refl _, by omega, by omega, RK.refl _ _, H0.out.1, fun i j hij hj => by omega⟩
    case round =>
      obtain ⟨k, rfl, hk1, hks, hgk, hK, hRow, hSt⟩ := hrel
      obtain ⟨G, hG, hcell, hfro⟩ := hRow.fam d.size rfl
      have H : Hid (RK w wr blk ∧ Row wr blk off d ∧ Strict d k ∧ ∀ t, G t = d[t]!) := ⟨hK, hRow, hSt, hG⟩
      clear hK hRow hSt hG
      by_cases hkl : k < d.size
      · go_upto_region 6 with fail
        go_quiet (fail)
        by_cases heq : G k = G (k - 1)
        · have heq2 : (G k == G (k - 1)) = true := by rw [heq]; exact beq_self_eq_true _
          go_upto_block 2 with fail
          have hgk' : G k = G (k - 1) := heq
          have HQ : Hid (d[k]! = d[k - 1]!) := by show _ = _; rw [← H.out.2.2.2, ← H.out.2.2.2]; exact heq
          have st0 := still_step H.out.1 H.out.2.1 nq
          have HS0 : Hid _ := st0
          clear st0 hcell hfro heq heq2 hgk'
          go_wp2_with fail
          go_loopg [3, 5] d.size (fun n v3 v5 wr => ∃ (kk k2 : Nat) (e : Array Int), v3 = .int .i64 kk ∧ v5 = .int .i64 k2 ∧ 1 ≤ k2 ∧ k2 ≤ d.size - k ∧ 1 ≤ kk ∧ kk + 1 ≤ k + k2 ∧ d.size - k - k2 ≤ n ∧ e.size = d.size ∧ (∀ j, k + k2 ≤ j + 1 → e[j]! = d[j]!) ∧ e[kk - 1]! = d[k + k2 - 1]! ∧ Strict e kk ∧ Mem e kk d (k + k2) ∧ RK w wr blk ∧ Row wr blk off e)
          case atStart =>
            exact ⟨k, 1, d, rfl, rfl, Nat.le_refl _, by omega, hk1, Nat.le_refl _, by omega, rfl, fun _ _ => rfl, by rw [Nat.add_sub_cancel]; exact HQ.out.symm, H.out.2.2.1, mem_same (fun x => Iff.rfl) hk1 HQ.out, HS0.out.1, HS0.out.2⟩
          case round =>
            clear HS0 nq H hgk
            obtain ⟨kk, k2, e, rfl, rfl, h21, h2s, hkk1, hkk2, hgk, hse, hsame, hlast, hSt, hMem, hK, hRow⟩ := hrel
            obtain ⟨G, hG, hcell, hfro⟩ := hRow.fam d.size hse
            have H : Hid ((∀ j, k + k2 ≤ j + 1 → e[j]! = d[j]!) ∧ e[kk - 1]! = d[k + k2 - 1]! ∧ Strict e kk ∧ Mem e kk d (k + k2) ∧ RK w wr blk ∧ Row wr blk off e ∧ ∀ t, G t = e[t]!) := ⟨hsame, hlast, hSt, hMem, hK, hRow, hG⟩
            clear hsame hlast hSt hMem hK hRow hG
            by_cases hkl2 : (k2 : Int) < (d.size : Int) - k
            · go_upto_region 11 with fail
              go_quiet (fail)
              have HE : Hid (G (k + k2) = d[k + k2]! ∧ G (k + (k2 - 1)) = d[k + k2 - 1]!) := ⟨by rw [H.out.2.2.2.2.2.2, H.out.1 _ (by omega)], by rw [H.out.2.2.2.2.2.2, H.out.1 _ (by omega), show k + (k2 - 1) = k + k2 - 1 by omega]⟩
              by_cases hne : G (k + k2) = G (k + (k2 - 1))
              · have HN : Hid (d[k + k2]! = d[k + k2 - 1]!) := by show _ = _; rw [← HE.out.1, ← HE.out.2]; exact hne
                have hne2 : (G (k + k2) != G (k + (k2 - 1))) = false := by rw [hne]; simp
                clear hne
                go_wp2
                go_roundg (d.size - k - k2 - 1)
                case measure => omega
                case rel =>
                  have st := still_step H.out.2.2.2.2.1 H.out.2.2.2.2.2.1 nq
                  exact ⟨kk, k2 + 1, e, rfl, by go_num, by omega, by omega, hkk1, by omega, by omega, hse, fun j hj => H.out.1 j (by omega), by
                    rw [H.out.2.1, show k + (k2 + 1) - 1 = k + k2 by omega]; exact HN.out.symm, H.out.2.2.1, mem_same (t := k + k2) H.out.2.2.2.1 (by omega) HN.out, st.1, st.2⟩
              · have HN : Hid (d[k + k2 - 1]! < d[k + k2]!) := by
                  show _ < _
                  have q := H0.out.2 (k + k2 - 1) (k + k2) (by omega) (by omega)
                  rw [← HE.out.1, ← HE.out.2] at q ⊢
                  omega
                have hne2 : (G (k + k2) != G (k + (k2 - 1))) = true := by simpa using hne
                clear hne
                go_wp2
                go_roundg (d.size - k - k2 - 1)
                case measure => omega
                case rel =>
                  have st := still_step H.out.2.2.2.2.1 H.out.2.2.2.2.2.1 nq
                  have sr := st.2.set kk (by omega) (G (k + k2))
                  rw [HE.out.1] at sr ⊢
                  exact ⟨kk + 1, k2 + 1, e.setIfInBounds kk d[k + k2]!, by go_num, by go_num, by omega, by omega, by omega, by omega, by omega, by rw [Array.size_setIfInBounds]; exact hse,
                    fun j hj => by rw [setAt_other j (by omega)]; exact H.out.1 j (by omega), by rw [Nat.add_sub_cancel, setAt_same (by omega), show k + (k2 + 1) - 1 = k + k2 by omega],
                    strict_set H.out.2.2.1 hkk1 (by omega) (by rw [H.out.2.1]; exact HN.out), mem_set (t := k + k2) H.out.2.2.2.1 (by omega), st.1.trans (RK.setCell _ _ _ _), sr⟩
            · have hcl : ∀ ty, (Builtin.clear_ #[22] ty #[.slice (some ⟨blk, off + kk, none⟩) (d.size - kk) (cap - kk)]).run Tryz.prog wr = .ok (.tuple #[]) (wr.setCells blk (off + kk) (List.replicate (d.size - kk) (.int .u64 0))) :=
                fun ty => Lib.run_clear_slice wr _ _ ty _ Tryz.underlying22 zero_sid rfl rfl blk (off + kk) _ _ (by omega) (fun j hj => by rw [Nat.add_assoc, hcell (kk + j) (by omega)]; rfl) (fun j hj => by rw [Nat.add_assoc]; exact hfro (kk + j) (by omega))
              have HF : Hid (k + k2 = d.size) := by show _ = _; omega
              go_wp2
              go_ret
              have m := mem_front H.out.2.2.2.1 (show kk ≤ e.size by omega)
              rw [HF.out] at m
              have z : (e.extract 0 kk).size = kk := by simp; omega
              exact ⟨e.extract 0 kk, by rw [z]; rfl, by omega, by omega, H.out.2.2.2.2.1.trans (RK.setCells _ _ _ _), H.out.2.2.2.2.2.1.front kk _ (by omega), by rw [z]; exact strict_front H.out.2.2.1 (by omega), by rw [z]; exact m⟩
        · have heq2 : (G k == G (k - 1)) = false := by simpa using heq
          go_wp2
          go_roundg (d.size - k - 1)
          case measure => omega
          case rel =>
            have st := still_step H.out.1 H.out.2.1 nq
            have q := H0.out.2 (k - 1) k (by omega) hkl
            rw [← H.out.2.2.2, ← H.out.2.2.2] at q
            exact ⟨k + 1, by go_num, by omega, by omega, by omega, st.1, st.2, strict_more H.out.2.2.1 hk1 (by rw [← H.out.2.2.2, ← H.out.2.2.2]; omega)⟩
      · go_wp2
        go_ret
        obtain rfl : k = d.size := by omega
        exact ⟨d, rfl, hcap, hsz, H.out.1, H.out.2.1, H.out.2.2.1, fun x => Iff.rfl⟩
end Go.Proofs.YtmajlldfiiokoaaGreatDoor
