/- The reader, the cursor and the row of things of CodeReads, together. -/
import Derived.Test.YticdikllfkfkfaaDoorCodeBoth
import Derived.Test.YticdikllfkfkfaaDoorThingsUse
import Derived.Test.YticdikllfkfkfaaDoorCodeOf3
import Derived.Deep.CutBlock
import Derived.Deep.DeepCutAuto
import Derived.Deep.LoopGhost
namespace Go.Proofs.YticdikllfkfkfaaDoor
open Go.ChangeShapes Go.WideShapes Go.ChangeAt Go.RowKit
set_option linter.unusedVariables false

theorem Cu.adds {w w' : World} {q qc : Nat} {s : ByteArray} {at' c : Nat} (h : Cu w qc s at' c) (ha : Adds w w' q) (hq : qc ≠ q) : Cu w' qc s at' c :=
  (ha.block qc h.lt hq).trans h
theorem block_set {w : World} {q o : Nat} {cs : Array Value} {T : TypeId} {v : Value} (h : w.heap[q]? = some (.cells cs T (0, 0))) :
    (w.setCell ⟨q, o, none⟩ v).heap[q]? = some (.cells (cs.setIfInBounds o v) T (0, 0)) := by
  have hlt := lt_of_block h
  have h' : w.heap[q] = .cells cs T (0, 0) := by simpa [Array.getElem?_eq_getElem hlt] using h
  show (w.heap.modify q _)[q]? = _
  rw [Array.getElem?_eq_getElem (by simpa using hlt), Array.getElem_modify_self, h']
  rfl
theorem Cu.store {w : World} {qc : Nat} {s : ByteArray} {a c : Nat} (h : Cu w qc s a c) (p d : Nat) :
    Cu (((w.setCell ⟨qc, 0, none⟩ (.string s)).setCell ⟨qc, 1, none⟩ (.int .i64 p)).setCell ⟨qc, 2, none⟩ (.int .i64 d)) qc s p d := by
  have := block_set (o := 2) (v := .int .i64 d) (block_set (o := 1) (v := .int .i64 p) (block_set (o := 0) (v := .string s) h))
  exact this
theorem same3 (w : World) (qc : Nat) (x y z : Value) : Same w (((w.setCell ⟨qc, 0, none⟩ x).setCell ⟨qc, 1, none⟩ y).setCell ⟨qc, 2, none⟩ z) qc :=
  ((Same.setCell _ _ _ _).trans (Same.setCell _ _ _ _)).trans (Same.setCell _ _ _ _)

/-- The reader at q stands at a with code c, the cursor at qc at a' with c'. -/
structure St (w0 w : World) (q qc g : Nat) (s : ByteArray) (a c a' c' : Nat) (us : List Th) : Prop where
  rd : Rd w q s a c
  cu : Cu w qc s a' c'
  row : ThRow w g us
  bel : Below w0.heap.size w0 w
  hq : w0.heap.size ≤ q
  hc : w0.heap.size ≤ qc
  n1 : qc ≠ q
  n2 : g ≠ q
  n3 : g ≠ qc
section
variable {w0 w w' : World} {q qc g : Nat} {s : ByteArray} {a c a' c' : Nat} {us : List Th}
theorem St.alloc (h : St w0 w q qc g s a c a' c' us) (o : Obj) : St w0 (w.alloc o) q qc g s a c a' c' us :=
  ⟨h.rd.alloc o, h.cu.alloc o, h.row.alloc o, h.bel.alloc h.bel.size o, h.hq, h.hc, h.n1, h.n2, h.n3⟩
theorem St.below (h : St w0 w q qc g s a c a' c' us) (hb : Below w.heap.size w w') : St w0 w' q qc g s a c a' c' us :=
  ⟨h.rd.below hb, h.cu.below hb, h.row.below hb, h.bel.trans (hb.mono h.bel.size), h.hq, h.hc, h.n1, h.n2, h.n3⟩
theorem St.drew (h : St w0 w q qc g s a c a' c' us) : St w0 w.drew q qc g s a c a' c' us :=
  ⟨h.rd, h.cu, h.row.carry (Nat.le_refl _) rfl, h.bel.drew, h.hq, h.hc, h.n1, h.n2, h.n3⟩
theorem St.drewN (h : St w0 w q qc g s a c a' c' us) (n : Nat) : St w0 (w.drewN n) q qc g s a c a' c' us :=
  ⟨h.rd, h.cu, h.row.carry (Nat.le_refl _) rfl, h.bel.trans ⟨rfl, rfl, rfl, Nat.le_refl _, fun _ _ => rfl⟩, h.hq, h.hc, h.n1, h.n2, h.n3⟩
theorem St.store (h : St w0 w q qc g s a c a' c' us) (p d : Nat) : St w0 (((w.setCell ⟨qc, 0, none⟩ (.string s)).setCell ⟨qc, 1, none⟩ (.int .i64 p)).setCell ⟨qc, 2, none⟩ (.int .i64 d)) q qc g s a c p d us :=
  ⟨h.rd.adds (same3 w qc _ _ _).adds h.n1.symm, h.cu.store p d, h.row.adds (same3 w qc _ _ _).adds h.n3, (same3 w qc _ _ _).adds.below h.hc h.bel.size h.bel, h.hq, h.hc, h.n1, h.n2, h.n3⟩
theorem St.read (h : St w0 w q qc g s a c a' c' us) {p d : Nat} (hr : Rd w' q s p d) (hs : Adds w w' q) : St w0 w' q qc g s p d a' c' us :=
  ⟨hr, h.cu.adds hs h.n1, h.row.adds hs h.n2, hs.below h.hq h.bel.size h.bel, h.hq, h.hc, h.n1, h.n2, h.n3⟩
theorem St.et (h : St w0 w q qc g s a c a' c' us) (hE : ErrType w0) : ErrType w := hE.below hE.lt h.bel
end
theorem row_none {w : World} (h : 0 < w.heap.size) : ThRow w 0 [] := ⟨h, fun j hj => by simp at hj, fun j hj => by simp at hj, fun j hj => by simp at hj, fun j hj => by simp at hj⟩

theorem done_quiet (q : Nat) (s : ByteArray) (at' : Nat) (w : World) (h : Rd w q s at' 0) (ha : ¬ at' < s.size) :
    Calls Tryd.prog 24 #[.pointer (some ⟨q, 0, none⟩)] w fun e w' => e = .returned .nilIface ∧ ∃ n, w' = w.drewN n := by
  have h0 := h.text
  have h1 := h.at
  have h2 := h.code
  have ha : ¬ (at' : Int) < (s.size : Int) := by omega
  go_enter Tryd.func24, Tryd.ntmps24
  go_wp2_with fail
  go_quiet (fail)
  go_wp2_with fail
  refine (err_nil q s at' _ (h.drewN _)).mono ?_
  rintro e w' ⟨rfl, rfl⟩
  go_wp2
  go_ret
  exact ⟨rfl, _, rfl⟩

theorem both_done (s : ByteArray) (a c : Nat) (h : c ≠ 0 ∨ a < s.size) : ∃ d, d ≠ 0
    ∧ (∀ w q, Rd w q s a c → Calls Tryd.prog 24 #[.pointer (some ⟨q, 0, none⟩)] w
        fun e w' => ∃ g, e = .returned (.iface 68 (.pointer (some ⟨g, 0, none⟩))) ∧ IsFault w' (.iface 68 (.pointer (some ⟨g, 0, none⟩))) d ∧ w.heap.size ≤ g ∧ Rd w' q s a d ∧ Adds w w' q)
    ∧ (∀ w, Calls Tryd.prog 23 #[curV s a c] w fun e w' => e = .returned (curV s a d) ∧ Below w.heap.size w w') := by
  by_cases h0 : c = 0
  · subst h0
    have ha : a < s.size := by omega
    exact ⟨11, by omega, fun w q hR => done_left q s a w hR ha, fun w => cdone_left s a w ha⟩
  · exact ⟨c, h0, fun w q hR => done_stuck q s a c w hR h0, fun w => cdone_same s a c w (.inl h0)⟩
end Go.Proofs.YticdikllfkfkfaaDoor
