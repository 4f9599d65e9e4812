/- A window of one's own; what layer 14's document fixes (awake). -/
import Derived.Test.YtffdknjocmfmfaaWi2
namespace Go.Proofs.Ytffdknjocmfmfaa
open Go.ChangeShapes Go.WideShapes Go.ChangeAt Go.RowKit
set_option linter.unusedVariables false

/-- A window that lies from B on, and all below B as it was. -/
structure OwnW (B : Nat) (w0 w : World) (r : Nat) (L : List (Int × Int)) : Prop where
  win : ∃ g, WinAt w r g L ∧ ∀ b, g = some b → B ≤ b
  lo : B ≤ r
  bel : Below B w0 w
theorem OwnW.wok {B : Nat} {w0 w : World} {r : Nat} {L : List (Int × Int)} (h : OwnW B w0 w r L) : WOk L := by
  obtain ⟨g, hg, _⟩ := h.win
  exact hg.wok
theorem OwnW.below {B : Nat} {w0 w w' : World} {r : Nat} {L : List (Int × Int)} (h : OwnW B w0 w r L) (hb : Below w.heap.size w w') (hB : B ≤ w.heap.size) : OwnW B w0 w' r L := by
  obtain ⟨g, hg, hl⟩ := h.win
  exact ⟨⟨g, hg.below hb, hl⟩, h.lo, h.bel.trans (hb.mono hB)⟩
theorem OwnW.size {B : Nat} {w0 w : World} {r : Nat} {L : List (Int × Int)} (h : OwnW B w0 w r L) : B ≤ w.heap.size := by
  obtain ⟨g, hg, _⟩ := h.win
  have := hg.lt
  have := h.lo
  omega
theorem OwnW.new (w : World) : OwnW w.heap.size w (w.alloc (.cells #[.map none] 43)) w.heap.size [] :=
  ⟨⟨none, WinAt.new w, fun b h => by cases h⟩, Nat.le_refl _, below_oneW _ _⟩
theorem OwnW.come {B : Nat} {w0 w : World} {r : Nat} {L : List (Int × Int)} (h : OwnW B w0 w r L) (p n : Int) (hn : EvOk p n) :
    Calls Try.prog 12 #[.pointer (some ⟨r, 0, none⟩), .int .i64 p, .int .i64 n] w fun e w' => e = .returned (.tuple #[.int .i64 (whatL L p n), .nilIface]) ∧ OwnW B w0 w' r (comeL L p n) ∧ w.heap.size ≤ w'.heap.size := by
  obtain ⟨g, hg, hl⟩ := h.win
  have hB := h.size
  refine (come_any r g L p n w hg hn).mono ?_
  rintro e w' ⟨rfl, g', hg', hk, hor⟩
  refine ⟨rfl, ⟨⟨g', hg', fun b hb => ?_⟩, h.lo, h.bel.trans (hk.below ?_ hB)⟩, hk.size⟩
  · rcases hor with e | ⟨b', e, h'⟩
    · exact hl b (by rw [← e]; exact hb)
    · rw [e] at hb; cases hb; omega
  · rintro b (rfl | hb)
    · exact h.lo
    · exact hl b hb
theorem ev_ok {p n : Int} (h1 : 0 ≤ p) (h2 : p ≤ 31) (h3 : 1 ≤ n) (h4 : n ≤ 1073741824) : EvOk p n := ⟨h1, h2, h3, h4⟩
end Go.Proofs.Ytffdknjocmfmfaa
