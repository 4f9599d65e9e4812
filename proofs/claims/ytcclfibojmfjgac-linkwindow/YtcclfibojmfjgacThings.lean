/- Things (wigwaglaw02.Thing): a slice of them that came in; 'few' copies at most so many, their texts cut. -/
import Derived.Test.YtcclfibojmfjgacRows
import Derived.Test.YtcclfibojmfjgacAid
import Derived.Test.YtcclfibojmfjgacCut
import Derived.Deep.Slices
import Derived.WalkKit
import Derived.ProofKit
import Derived.OpenShut
import Derived.WalkLawsBesides
import Derived.Outline
namespace Go.Proofs.Ytcclfibojmfjgac
open Go.ChangeShapes Go.WideShapes Go.ChangeAt Go.RowKit Go.Deep
set_option linter.unusedVariables false

structure Th where
  kind : Int
  n : Int
  u : Nat
  s : ByteArray

def th0 : Th := ⟨0, 0, 0, ByteArray.empty⟩

/-- A thing as cells. -/
def Th.cells (t : Th) : List Value := [.int .i64 t.kind, .int .i64 t.n, .int .u64 t.u, .string t.s]
/-- What may stand in a thing. -/
def Th.ok (t : Th) : Prop := (-9223372036854775808 ≤ t.kind ∧ t.kind ≤ 9223372036854775807) ∧ (-9223372036854775808 ≤ t.n ∧ t.n ≤ 9223372036854775807) ∧ t.u < 18446744073709551616 ∧ t.s.size ≤ maxLen
/-- The thing with its text cut. -/
def Th.cut (t : Th) (n : Nat) : Th := { t with s := Go.Proofs.Ytcclfibojmfjgac.cut t.s n }

/-- The things ts lie at the address, one behind the other. -/
structure ThAt (w : World) (b off len : Nat) (ts : List Th) : Prop where
  lenEq : ts.length = len
  c0 : ∀ j, j < len → w.cell? ⟨b, off + j * 4, none⟩ = some (.int .i64 (ts.getD j th0).kind)
  c1 : ∀ j, j < len → w.cell? ⟨b, off + j * 4 + 1, none⟩ = some (.int .i64 (ts.getD j th0).n)
  c2 : ∀ j, j < len → w.cell? ⟨b, off + j * 4 + 2, none⟩ = some (.int .u64 (ts.getD j th0).u)
  c3 : ∀ j, j < len → w.cell? ⟨b, off + j * 4 + 3, none⟩ = some (.string (ts.getD j th0).s)
  ok : ∀ t ∈ ts, t.ok

theorem take_snocT (ts : List Th) (k : Nat) (h : k < ts.length) : ts.take (k + 1) = ts.take k ++ [ts.getD k th0] := by
  rw [List.take_succ_eq_append_getElem h]; simp [List.getD, h]

def fewCells (ts : List Th) (k : Nat) : List Value := (ts.take k).flatMap fun t => (t.cut 200).cells

/-- A slice of things that came in. -/
def IsThings (w : World) (a : Option Addr) (len cap : Nat) (ts : List Th) : Prop :=
  (len = 0 ∧ ts = []) ∨ ∃ b off, a = some ⟨b, off, none⟩ ∧ 0 < len ∧ len ≤ maxLen ∧ b < w.heap.size ∧ ThAt w b off len ts

end Go.Proofs.Ytcclfibojmfjgac
