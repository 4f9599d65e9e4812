/- copy into a row of one's own, whatever its elements' cells; append of zeros that grows. No program in sight. -/
import Derived.Laws.CopyRow
import Derived.Lib.AppendZeros
import Derived.Deep.AppendSrc
import Derived.WalkKit
namespace Go.Proofs.Ytffdknjocmfmfaa
open Go.RowKit
set_option linter.unusedVariables false

section
variable {P : Program}
/-- copy: all is read before anything is written. -/
theorem copy_rowK (k : Nat) (w : World) (dT sT ty elem : TypeId) (g o dLen dCap : Nat) (a : Addr) (sLen sCap : Nat) (cur : Array Value) (t : TypeId) (cs : List Value)
    (hu : P.underlying dT = some (.slice elem)) (hs : (P.info? elem).map (·.size) = some k)
    (hg : w.heap[g]? = some (.cells cur t (0, 0))) (hn : cs.length = Nat.min sLen dLen * k)
    (hsrc : ∀ j v, cs[j]? = some v → w.cell? (a.add j) = some v) (hfit : o + cs.length ≤ cur.size) (h1 : ∀ v ∈ cs, v.oneCell' = true) :
    (Builtin.copy_ #[dT, sT] ty #[.slice (some ⟨g, o, none⟩) dLen dCap, .slice (some a) sLen sCap]).run P w =
      .ok (goInt (Nat.min sLen dLen)) (w.setRow g (cur.toList.take o ++ cs ++ cur.toList.drop (o + cs.length)).toArray) := by
  have hl := run_loadCells_list (P := P) w a cs hsrc
  rw [hn] at hl
  have hst := run_storeCells_at P g o t cs 0 cur w hg (by simpa using hfit) h1
  cases hq : P.info? elem with
  | none => simp [hq] at hs
  | some i =>
    have hi : i.size = k := by simpa [hq] using hs
    simp [Builtin.copy_, run_underlying hu, Builtin.lenOf, Builtin.firstCells, sizeOf, typeInfo, hq, hi, hl, hst]

/-- append(s[:i], make(S, m)...), where there is no room: a new row. -/
theorem zeros_grow (w : World) (t tn ty e : TypeId) (i : TypeInfo) (z : Value) (ht : P.underlying t = some (.slice e)) (htn : P.underlying tn = some (.int .i64)) (hi : P.info? e = some i) (hz : i.zero = some z)
    (hs : 0 < i.size) (base : Option Addr) (n c m : Nat) (old : List Value) (hold : (Builtin.firstCells i.size n (.slice base n c)).run P w.drew = .ok old.toArray w.drew) (h0 : 0 < m) (hroom : c < n + m) (h63 : n + m ≤ 1000000) (hby : i.bytes ≤ 1000) :
    (Builtin.append_ #[t, tn] ty #[.slice base n c, .int .i64 m]).run P w =
      .ok (.slice (some ⟨w.heap.size, 0, none⟩) (n + m) (grownCap w (n + m) c e)) (w.drew.alloc (.cells (old.toArray ++ Builtin.zeroCells z.cells m ++ Builtin.zeroCells z.cells (grownCap w (n + m) c e - (n + m))) e)) := by
  have hw : IntKind.i64.wrap (m : Int) = m := by rw [IntKind.wrap_i64]; omega
  have hneg : ¬ ((m : Int) < 0) := by omega
  have hmb : m * i.bytes ≤ 1000000 * 1000 := Nat.mul_le_mul (by omega) hby
  have h48i : ¬ (281474976710656 < (m : Int) * (i.bytes : Int)) := by
    rw [← Int.natCast_mul]
    omega
  have hns : ¬ (m * i.size = 0) := Nat.mul_ne_zero (by omega) (by omega)
  have hnr : ¬ (n + m ≤ c) := by omega
  have h63' : ¬ (9223372036854775807 < (n : Int) + (m : Int)) := by omega
  have hnb : (n + m) * i.bytes ≤ 140737488355328 := Nat.le_trans (Nat.mul_le_mul h63 hby) (by omega)
  have h48' : ¬ (281474976710656 < Builtin.nextslicecap (n + m) c * i.bytes) := by
    have := growslice_fits (need := n + m) (old := c) (bytes := i.bytes) hroom hnb
    omega
  simp [Builtin.append_, run_underlying ht, run_underlying htn, sizeOf, typeInfo, zeroValue, hi, hz, asInt, asIntOf, hw, hneg, hns, hnr, h63', h48', h48i, Question.forced, hold, newRow, grownCap]
/-- What an insertion leaves: as an append does. -/
structure AppendK (k base : Nat) (e : TypeId) (w w' : World) (v v' : Value) (n : Nat) (xs : List Value) : Prop where
  row : w'.ownsRow base e k v' n xs
  grown : w.grownBy w' v.ownBlock
  new : ∀ x, v'.ownBlock = some x → v.ownBlock = some x ∨ w.heap.size ≤ x
  shape : ∃ a c, v' = .slice a n c
/-- A row with something put in. -/
theorem splice_in {α : Type} (xs q Z : List α) (j : Nat) (hj : j ≤ xs.length) (hZ : q.length ≤ Z.length) :
    ((xs.take j ++ Z).take j ++ q ++ (xs.take j ++ Z).drop (j + q.length)) = xs.take j ++ q ++ Z.drop q.length := by
  have hl : (xs.take j).length = j := by simp; omega
  rw [List.take_append_of_le_length (by omega), List.take_of_length_le (by omega), List.drop_append, hl]
  have e1 : (xs.take j).drop (j + q.length) = [] := by apply List.drop_eq_nil_of_le; omega
  rw [e1, List.nil_append, show j + q.length - j = q.length by omega]
end
end Go.Proofs.Ytffdknjocmfmfaa
