/- Writers and readers beside one another; what is written is read again. -/
import Derived.Test.YthadgekojenpjaaDoorCodeAwake
namespace Go.Proofs.YthadgekojenpjaaDoor
open Go.ChangeShapes Go.WideShapes Go.ChangeAt Go.RowKit
set_option linter.unusedVariables false

/-- Another writer is as it was. -/
theorem Wr.kept {B : Nat} {w w' : World} {p p2 : Nat} {v v' u : Value} {l : List UInt8} (h : Wr B w p2 u l) (hk : Kept w w' p v v') (hp : p2 ≠ p) (hup : u.ownBlock ≠ some p) (hvp : v.ownBlock ≠ some p2)
    (huv : ∀ k, u.ownBlock = some k → v.ownBlock ≠ some k) : Wr B w' p2 u l :=
  h.carry (fun k hk' => hk.block k (h.ltRow k hk') (fun e => by
      subst e
      rcases hk' with h1 | h1
      · exact hp h1.symm
      · exact hup h1) (fun e => by
      rcases hk' with h1 | h1
      · subst h1; exact hvp e.symm
      · exact huv k h1 e.symm))

theorem Rd.adds {w w' : World} {q q2 : Nat} {s : ByteArray} {at' c : Nat} (h : Rd w q2 s at' c) (ha : Adds w w' q) (hq : q2 ≠ q) : Rd w' q2 s at' c :=
  (ha.block q2 h.lt hq).trans h
theorem Rd.below {w w' : World} {q : Nat} {s : ByteArray} {at' c : Nat} (h : Rd w q s at' c) (hb : Below w.heap.size w w') : Rd w' q s at' c :=
  (hb.block q h.lt).trans h
theorem Wr.below {B : Nat} {w w' : World} {p : Nat} {v : Value} {l : List UInt8} (h : Wr B w p v l) (hb : Below w.heap.size w w') : Wr B w' p v l :=
  h.carry (fun k hk => hb.block k (h.ltRow k hk))

theorem rd_string (n : Nat) (hn : n < 18446744073709551616) : rdNum 0 0 (List.drop 0 (ByteArray.data ⟨(numB n).toArray⟩).toList) = (n, (numB n).length, 0) := by
  have := rd_back n [] hn
  simpa using this

end Go.Proofs.YthadgekojenpjaaDoor
