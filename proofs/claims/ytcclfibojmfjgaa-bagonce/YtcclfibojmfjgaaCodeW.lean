/- What code.Writer does: its bytes are those that were there, and the thing's. -/
import Derived.Test.YtcclfibojmfjgaaRows
import Derived.Test.YtcclfibojmfjgaaCodeMath
import Derived.Test.YtcclfibojmfjgaaAid
import Derived.Test.YtcclfibojmfjgaaOwnSrc
import Derived.WalkKit
import Derived.ProofKit
import Derived.OpenShut
import Derived.WalkLawsBesides
import Derived.OneCell
import Derived.Deep.AppendSrc
import Derived.Laws.BitsAllLaws
import Derived.Laws.BytesArg
import Derived.Laws.IdiomStrings
import Derived.Outline
namespace Go.Proofs.Ytcclfibojmfjgaa
open Go.ChangeShapes Go.WideShapes Go.ChangeAt Go.RowKit
set_option linter.unusedVariables false

/-- A byte as a cell. -/
def cellU8 (c : UInt8) : Value := .int .u8 (c.toNat : Int)

/-- What a call on the writer at p (its slice v, then v') leaves as it was. -/
structure Kept (w w' : World) (p : Nat) (v v' : Value) : Prop where
  os : w'.os = w.os
  tape : w'.tape = w.tape
  output : w'.output = w.output
  size : w.heap.size ≤ w'.heap.size
  block : ∀ k, k < w.heap.size → k ≠ p → some k ≠ v.ownBlock → w'.heap[k]? = w.heap[k]?
  own : ∀ k, v'.ownBlock = some k → v.ownBlock = some k ∨ w.heap.size ≤ k

theorem Kept.refl (w : World) (p : Nat) (v : Value) : Kept w w p v v := ⟨rfl, rfl, rfl, Nat.le_refl _, fun _ _ _ _ => rfl, fun _ h => .inl h⟩
theorem Kept.trans {a b c : World} {p : Nat} {u v x : Value} (h : Kept a b p u v) (k : Kept b c p v x) : Kept a c p u x :=
  ⟨k.os.trans h.os, k.tape.trans h.tape, k.output.trans h.output, Nat.le_trans h.size k.size,
   fun i hi hp hu => (k.block i (Nat.lt_of_lt_of_le hi h.size) hp (fun e => by
     rcases h.own i e.symm with h1 | h1
     · exact hu h1.symm
     · omega)).trans (h.block i hi hp hu),
   fun i hi => by
     rcases k.own i hi with h1 | h1
     · exact h.own i h1
     · exact .inr (Nat.le_trans h.size h1)⟩
theorem Try.info5 : (Try.prog.info? 5).map (fun i => (i.zero, i.size, i.bytes)) = some (some (.int .u8 0), 1, 1) := by kernel_rfl

theorem or128 (n : Nat) : bits .or .u8 ((n : Int) % 256) 128 = ((UInt8.ofNat (n % 128 + 128)).toNat : Int) := by
  have h : ∀ x : Fin 256, bits .or .u8 (x.val : Int) 128 = ((x.val % 128 + 128 : Nat) : Int) := by decide +kernel
  have e : (n : Int) % 256 = ((n % 256 : Nat) : Int) := by omega
  rw [e, h ⟨n % 256, by omega⟩, ofNat_toNat _ (by omega)]
  have : n % 256 % 128 = n % 128 := by omega
  simp only [this]

theorem wrap128 (n : Nat) (h : n < 128) : IntKind.u8.wrap (n : Int) = ((UInt8.ofNat n).toNat : Int) := by
  rw [IntKind.wrap_u8, ofNat_toNat n (by omega)]; omega

end Go.Proofs.Ytcclfibojmfjgaa
