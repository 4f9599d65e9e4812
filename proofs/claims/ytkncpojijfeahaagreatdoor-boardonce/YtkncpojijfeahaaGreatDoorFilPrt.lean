/- filter.quoted, printPred, Print. -/
import Derived.Test.YtkncpojijfeahaaGreatDoorFilPrnM
import Derived.Test.YtkncpojijfeahaaGreatDoorJoinAsFault
import Derived.Test.YtkncpojijfeahaaGreatDoorShelfB
import Derived.Test.YtkncpojijfeahaaGreatDoorJoinValName
import Derived.Deep.LoopGhost
namespace Go.Proofs.YtkncpojijfeahaaGreatDoor
open Go.ChangeShapes Go.WideShapes Go.ChangeAt Go.RowKit
set_option linter.unusedVariables false

theorem pbel1 (w : World) (o : Obj) : Below w.heap.size w (w.alloc o) := (Below.refl _ _).alloc (Nat.le_refl _) o
theorem own_carryP {B : Nat} {w w' : World} {e : TypeId} {k n : Nat} {v : Value} {xs : List Value} (h : w.ownsRow B e k v n xs) (hb : Below w.heap.size w w') : w'.ownsRow B e k v n xs := by
  refine ⟨h.1, ?_⟩
  rcases h.2 with h1 | ⟨g', cap, cur, hv, hbg, hg, hr⟩
  · exact .inl h1
  · exact .inr ⟨g', cap, cur, hv, hbg, (hb.block g' (lt_of_block hg)).trans hg, hr⟩
theorem grown_belowP {B : Nat} {w0 w w' : World} {e : TypeId} {k n : Nat} {v : Value} {xs : List Value} (hb : Below B w0 w) (hle : B ≤ w.heap.size) (h : w.ownsRow B e k v n xs) (hg : w.grownBy w' v.ownBlock) : Below B w0 w' :=
  hb.trans ⟨hg.os, hg.tape, hg.output, hg.size, fun j hj => hg.block j (by omega) (fun e => by have := (h.lt j e.symm).1; omega)⟩
/-- A row of one-cell things of the call's own. -/
structure OwRow (T : TypeId) (w0 w : World) (v : Value) (xs : List Value) : Prop where
  row : w.ownsRow w0.heap.size T 1 v xs.length xs
  bel : Below w0.heap.size w0 w
theorem OwRow.le {T : TypeId} {w0 w : World} {v : Value} {xs : List Value} (h : OwRow T w0 w v xs) : w0.heap.size ≤ w.heap.size := h.bel.size
theorem OwRow.carry {T : TypeId} {w0 w w' : World} {v : Value} {xs : List Value} (h : OwRow T w0 w v xs) (hb : Below w.heap.size w w') : OwRow T w0 w' v xs := ⟨own_carryP h.row hb, h.bel.trans (hb.mono h.le)⟩
theorem OwRow.nil (T : TypeId) (w0 w : World) (h : Below w0.heap.size w0 w) : OwRow T w0 w (.slice none 0 0) [] := ⟨World.ownsRow_nil _ _ _ _, h⟩
theorem OwRow.step {T : TypeId} {w0 W1 W2 : World} {v v' : Value} {xs ys : List Value} (h1 : OwRow T w0 W1 v xs) (ha : Appended w0.heap.size T W1 W2 v v' (xs.length + ys.length) (xs ++ ys)) : OwRow T w0 W2 v' (xs ++ ys) := by
  refine ⟨?_, grown_belowP h1.bel h1.le h1.row ha.grown⟩
  have := ha.row
  simpa using this
theorem src_By (w : World) (c : UInt8) (x : Nat) (hx : x = w.heap.size) :
    Src Tryz.prog 1 232 (.slice (some ⟨x, 0, none⟩) 1 1) 1 [cellB c] (w.alloc (.cells #[.int .u8 (c.toNat : Int)] 5)) :=
  Src.ofSlice _ Tryz.underlying232 _ 1 1 _ rfl (fun j u hu => by
    subst hx
    have := World.news_of_block (cs := #[.int .u8 (c.toNat : Int)]) (t := 5) (fr := (0, 0)) (heap_alloc_new w _) j u (by simpa [cellB] using hu)
    exact this) (by simp [cellB, Value.oneCell'])
theorem own_made (w : World) (T : TypeId) (cs : List Value) (n : Nat) (hn : n = cs.length) (hl : cs.length ≤ maxLen) : (w.alloc (.cells cs.toArray T)).ownsRow w.heap.size T 1 (.slice (some ⟨w.heap.size, 0, none⟩) n n) cs.length cs := by
  subst hn
  refine ⟨by simp, .inr ⟨w.heap.size, cs.length, cs.toArray, rfl, Nat.le_refl _, heap_alloc_new w _, Nat.le_refl _, hl, by simp, by simp⟩⟩
/-- Bytes of the call's own as a text. -/
theorem conv_own {W : World} {B : Nat} {v : Value} {acc : List UInt8} (hrow : W.ownsRow B 5 1 v acc.length (acc.map cellB)) : (convert 232 9 v).run Tryz.prog W = .ok (.string (ba acc)) W := by
  rcases hrow.2 with ⟨hv, hn⟩ | ⟨g, cap, cur, hv, hbg, hg, hnc, hcm, hcs, htake⟩
  · have hl : acc = [] := List.eq_nil_of_length_eq_zero hn
    subst hl
    subst hv
    exact run_convert_bytes_nil (P := Tryz.prog) W 232 5 Tryz.underlying232 Tryz.underlying5 0 0 9 Tryz.underlying9
  · rw [hv]
    exact run_convert_bytes_back (P := Tryz.prog) W 232 9 5 ⟨g, 0, none⟩ cap acc Tryz.underlying232 Tryz.underlying5 Tryz.underlying9 (fun i hi => by
      have := hrow.cells (g := g) (by rw [hv]; rfl) i (cellB acc[i]) (by simp [hi])
      exact this)

theorem qL_len (s : List UInt8) : (qL s).length ≤ 2 * s.length := by
  induction s with
  | nil => simp [qL]
  | cons c s ih => rw [qL_cons]; split <;> simp <;> omega
end Go.Proofs.YtkncpojijfeahaaGreatDoor
