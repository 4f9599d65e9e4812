/- Writers and readers beside one another; what is written is read again. -/
import Derived.Test.YtgbdnclolgdojaaCodeR2
namespace Go.Proofs.Ytgbdnclolgdojaa
open Go.ChangeShapes Go.WideShapes Go.ChangeAt Go.RowKit
set_option linter.unusedVariables false

theorem wr_new (B : Nat) (w : World) (hB : B ≤ w.heap.size) : Wr B (w.alloc (.cells #[.slice none 0 0] 71)) w.heap.size (.slice none 0 0) [] :=
  ⟨hB, heap_alloc_new w _, World.ownsRow_nil _ _ _ _, by simp [Value.ownBlock]⟩

/-- A writer is as it was where its two blocks are. -/
theorem Wr.carry {B : Nat} {w w' : World} {p : Nat} {v : Value} {l : List UInt8} (h : Wr B w p v l) (hb : ∀ k, (k = p ∨ v.ownBlock = some k) → w'.heap[k]? = w.heap[k]?) : Wr B w' p v l := by
  refine ⟨h.lo, (hb p (.inl rfl)).trans h.box, ⟨h.row.1, ?_⟩, h.apart⟩
  rcases h.row.2 with h2 | ⟨g, cap, cur, hv, hg, hh, r⟩
  · exact .inl h2
  · exact .inr ⟨g, cap, cur, hv, hg, (hb g (.inr (by rw [hv]; rfl))).trans hh, r⟩
theorem Wr.alloc {B : Nat} {w : World} {p : Nat} {v : Value} {l : List UInt8} (h : Wr B w p v l) (o : Obj) : Wr B (w.alloc o) p v l :=
  h.carry (fun k hk => Below.heap_alloc w o k (by
    rcases hk with rfl | hk
    · exact h.lt
    · exact (h.row.lt k hk).2))
theorem Wr.ltRow {B : Nat} {w : World} {p : Nat} {v : Value} {l : List UInt8} (h : Wr B w p v l) (k : Nat) (hk : k = p ∨ v.ownBlock = some k) : k < w.heap.size := by
  rcases hk with rfl | hk
  · exact h.lt
  · exact (h.row.lt k hk).2
theorem Wr.adds {B : Nat} {w w' : World} {p q : Nat} {v : Value} {l : List UInt8} (h : Wr B w p v l) (hq : q ≠ p) (hr : v.ownBlock ≠ some q) (ha : Adds w w' q) : Wr B w' p v l :=
  h.carry (fun k hk => ha.block k (h.ltRow k hk) (fun e => by
    subst e
    rcases hk with rfl | hk
    · exact hq rfl
    · exact hr hk))
theorem rd_new (w : World) (s : ByteArray) : Rd (w.alloc (.cells #[.string s, .int .i64 0, .int .i64 0] 84)) w.heap.size s 0 0 := heap_alloc_new w _

/-- Another writer is as it was. -/
theorem Wr.kept {B : Nat} {w w' : World} {p p2 : Nat} {v v' u : Value} {l : List UInt8} (h : Wr B w p2 u l) (hk : Kept w w' p v v') (hp : p2 ≠ p) (hup : u.ownBlock ≠ some p) (hvp : v.ownBlock ≠ some p2)
    (huv : ∀ k, u.ownBlock = some k → v.ownBlock ≠ some k) : Wr B w' p2 u l :=
  h.carry (fun k hk' => hk.block k (h.ltRow k hk') (fun e => by
      subst e
      rcases hk' with h1 | h1
      · exact hp h1.symm
      · exact hup h1) (fun e => by
      rcases hk' with h1 | h1
      · subst h1; exact hvp e.symm
      · exact huv k h1 e.symm))

theorem Rd.adds {w w' : World} {q q2 : Nat} {s : ByteArray} {at' c : Nat} (h : Rd w q2 s at' c) (ha : Adds w w' q) (hq : q2 ≠ q) : Rd w' q2 s at' c :=
  (ha.block q2 h.lt hq).trans h
theorem Rd.below {w w' : World} {q : Nat} {s : ByteArray} {at' c : Nat} (h : Rd w q s at' c) (hb : Below w.heap.size w w') : Rd w' q s at' c :=
  (hb.block q h.lt).trans h
theorem Wr.below {B : Nat} {w w' : World} {p : Nat} {v : Value} {l : List UInt8} (h : Wr B w p v l) (hb : Below w.heap.size w w') : Wr B w' p v l :=
  h.carry (fun k hk => hb.block k (h.ltRow k hk))

theorem rd_string (n : Nat) (hn : n < 18446744073709551616) : rdNum 0 0 (List.drop 0 (ByteArray.data ⟨(numB n).toArray⟩).toList) = (n, (numB n).length, 0) := by
  have := rd_back n [] hn
  simpa using this

end Go.Proofs.Ytgbdnclolgdojaa
