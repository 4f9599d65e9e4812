/- Rows of pairs of ints that came in. -/
import Derived.Test.YtmnlbheicedloabDoorInRow
namespace Go.Proofs.YtmnlbheicedloabDoor
open Go.ChangeShapes Go.WideShapes Go.ChangeAt Go.RowKit Go.Deep
set_option linter.unusedVariables false
section
variable {H : Type} {enc' : TypeId × Value → H} {W : World}
theorem trod_array {P : Program} {w : World} {base : Nat} {spare : Nat → Bool} {held : Bool} {fuel : Nat} {t : TypeId} {cs : List Value} {x : DataW H × List MemPlace} {n : Nat} {e : TypeId} (ht : P.underlying t = some (.array n e)) (h : DataW.trod enc' P w base spare held fuel t cs = some x) :
    ∃ (xs : List (DataW H × List MemPlace)) (m : Nat), fuel = m + 1 ∧ cs.length = P.cellsOf t ∧ xs.length = n ∧
      ∀ i, i < n → DataW.trod enc' P w base spare held m e ((cs.drop (i * P.cellsOf e)).take (P.cellsOf e)) = xs[i]? := by
  cases fuel with
  | zero => simp [DataW.trod] at h
  | succ m =>
    unfold DataW.trod at h
    rw [ht] at h
    split at h <;> simp_all
    obtain ⟨hl, xs, hp, hd⟩ := h
    exact ⟨xs, by simpa using mapM_some_length hp, fun i hi => mapM_some_get hp i i (by simp [hi])⟩
/-- A pair of ints. -/
def encP (p : Int × Int) : List Value := [.int .i64 p.1, .int .i64 p.2]
def okP (p : Int × Int) : Prop := i64 p.1 ∧ i64 p.2
theorem lenP (p : Int × Int) : (encP p).length = 2 := rfl
theorem cellsP2 : Tryd.prog.cellsOf 28 = 2 := by kernel_rfl
set_option maxRecDepth 100000 in
theorem pair_of (n : Nat) (cs : List Value) (x : DataW H × List MemPlace) (h : DataW.trod enc' Tryd.prog W 0 (fun _ => true) true n 28 cs = some x) : ∃ p, cs = encP p ∧ okP p := by
  obtain ⟨xs, m, _, hl, hlen, hf⟩ := trod_array Tryd.underlying28 h
  rw [cellsP2] at hl
  match cs, hl with
  | [c0, c1], _ =>
    match xs, hlen with
    | [y0, y1], _ =>
      have f0 := hf 0 (by omega)
      have f1 := hf 1 (by omega)
      simp [cellsI1] at f0 f1
      obtain ⟨k, e0, _, wk⟩ := DataW.trod_int Tryd.underlying3 f0
      obtain ⟨n, e1, _, wn⟩ := DataW.trod_int Tryd.underlying3 f1
      simp at e0 e1
      subst e0 e1
      exact ⟨(k, n), rfl, bounds_i64 wk, bounds_i64 wn⟩
theorem pair_end : True := trivial
end
end Go.Proofs.YtmnlbheicedloabDoor
