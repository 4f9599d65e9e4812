/- A window of one's own; what layer 14's document fixes (awake). -/
import Derived.Test.YtmnlbheicedloabDoorWi2
namespace Go.Proofs.YtmnlbheicedloabDoor
open Go.ChangeShapes Go.WideShapes Go.ChangeAt Go.RowKit
set_option linter.unusedVariables false

/-- A window that lies from B on, and all below B as it was. -/
structure OwnW (B : Nat) (w0 w : World) (r : Nat) (L : List (Int × Int)) : Prop where
  win : ∃ g, WinAt w r g L ∧ ∀ b, g = some b → B ≤ b
  lo : B ≤ r
  bel : Below B w0 w
theorem OwnW.wok {B : Nat} {w0 w : World} {r : Nat} {L : List (Int × Int)} (h : OwnW B w0 w r L) : WOk L := by
  obtain ⟨g, hg, _⟩ := h.win
  exact hg.wok
theorem OwnW.below {B : Nat} {w0 w w' : World} {r : Nat} {L : List (Int × Int)} (h : OwnW B w0 w r L) (hb : Below w.heap.size w w') (hB : B ≤ w.heap.size) : OwnW B w0 w' r L := by
  obtain ⟨g, hg, hl⟩ := h.win
  exact ⟨⟨g, hg.below hb, hl⟩, h.lo, h.bel.trans (hb.mono hB)⟩
theorem OwnW.size {B : Nat} {w0 w : World} {r : Nat} {L : List (Int × Int)} (h : OwnW B w0 w r L) : B ≤ w.heap.size := by
  obtain ⟨g, hg, _⟩ := h.win
  have := hg.lt
  have := h.lo
  omega
theorem OwnW.new (w : World) : OwnW w.heap.size w (w.alloc (.cells #[.map none] 25)) w.heap.size [] :=
  ⟨⟨none, WinAt.new w, fun b h => by cases h⟩, Nat.le_refl _, below_oneW _ _⟩
theorem OwnW.come {B : Nat} {w0 w : World} {r : Nat} {L : List (Int × Int)} (h : OwnW B w0 w r L) (p n : Int) (hn : EvOk p n) :
    Calls Tryd.prog 6 #[.pointer (some ⟨r, 0, none⟩), .int .i64 p, .int .i64 n] w fun e w' => e = .returned (.tuple #[.int .i64 (whatL L p n), .nilIface]) ∧ OwnW B w0 w' r (comeL L p n) ∧ w.heap.size ≤ w'.heap.size := by
  obtain ⟨g, hg, hl⟩ := h.win
  have hB := h.size
  refine (come_any r g L p n w hg hn).mono ?_
  rintro e w' ⟨rfl, g', hg', hk, hor⟩
  refine ⟨rfl, ⟨⟨g', hg', fun b hb => ?_⟩, h.lo, h.bel.trans (hk.below ?_ hB)⟩, hk.size⟩
  · rcases hor with e | ⟨b', e, h'⟩
    · exact hl b (by rw [← e]; exact hb)
    · rw [e] at hb; cases hb; omega
  · rintro b (rfl | hb)
    · exact h.lo
    · exact hl b hb
theorem OwnW.last {B : Nat} {w0 w : World} {r : Nat} {L : List (Int × Int)} (h : OwnW B w0 w r L) (p : Int) :
    Calls Tryd.prog 8 #[.pointer (some ⟨r, 0, none⟩), .int .i64 p] w fun e w' => e = .returned (.int .i64 (lastL L p)) ∧ w' = w := by
  obtain ⟨g, hg, _⟩ := h.win
  exact lastw_any r g L p w hg

theorem ev_ok {p n : Int} (h1 : 0 ≤ p) (h2 : p ≤ 31) (h3 : 1 ≤ n) (h4 : n ≤ 1073741824) : EvOk p n := ⟨h1, h2, h3, h4⟩
set_option maxHeartbeats 1000000 in
theorem awake14_any (w : World) :
    Calls Tryd.prog 4 #[] w fun e w' => e = .returned (.bool true) ∧ Below w.heap.size w w' := by
  have H0 : Hid (OwnW w.heap.size w (w.alloc (.cells #[.map none] 25)) w.heap.size []) := OwnW.new w
  go_enter Tryd.func4, Tryd.ntmps4
  go_wp2_with fail
  refine (H0.out.come 1 5 (by decide)).mono ?_
  rintro e w1 ⟨rfl, h1, _⟩
  rw [show whatL [] 1 5 = 1 by decide]
  rw [show comeL [] 1 5 = [(1, 5)] by decide] at h1
  have H1 : Hid _ := h1
  clear h1 H0
  go_wp2_with fail
  refine (H1.out.come 1 3 (by decide)).mono ?_
  rintro e w2 ⟨rfl, h1, _⟩
  rw [show whatL [(1, 5)] 1 3 = 1 by decide]
  rw [show comeL [(1, 5)] 1 3 = [(1, 5), (1, 3)] by decide] at h1
  have H2 : Hid _ := h1
  clear h1 H1
  go_wp2_with fail
  refine (H2.out.come 1 5 (by decide)).mono ?_
  rintro e w3 ⟨rfl, h1, _⟩
  rw [show whatL [(1, 5), (1, 3)] 1 5 = 2 by decide]
  rw [show comeL [(1, 5), (1, 3)] 1 5 = [(1, 5), (1, 3)] by decide] at h1
  have H3 : Hid _ := h1
  clear h1 H2
  go_wp2_with fail
  refine (H3.out.come 1 70 (by decide)).mono ?_
  rintro e w4 ⟨rfl, h1, _⟩
  rw [show whatL [(1, 5), (1, 3)] 1 70 = 1 by decide]
  rw [show comeL [(1, 5), (1, 3)] 1 70 = [(1, 5), (1, 3), (1, 70)] by decide] at h1
  have H4 : Hid _ := h1
  clear h1 H3
  go_wp2_with fail
  refine (H4.out.come 1 6 (by decide)).mono ?_
  rintro e w5 ⟨rfl, h1, _⟩
  rw [show whatL [(1, 5), (1, 3), (1, 70)] 1 6 = 3 by decide]
  rw [show comeL [(1, 5), (1, 3), (1, 70)] 1 6 = [(1, 5), (1, 3), (1, 70)] by decide] at h1
  have H5 : Hid _ := h1
  clear h1 H4
  go_wp2_with fail
  refine (H5.out.come 1 7 (by decide)).mono ?_
  rintro e w6 ⟨rfl, h1, _⟩
  rw [show whatL [(1, 5), (1, 3), (1, 70)] 1 7 = 1 by decide]
  rw [show comeL [(1, 5), (1, 3), (1, 70)] 1 7 = [(1, 5), (1, 3), (1, 70), (1, 7)] by decide] at h1
  have H6 : Hid _ := h1
  clear h1 H5
  go_wp2_with (go_at_call 8; refine (H6.out.last 1).mono ?_; rintro e w7 ⟨rfl, rfl⟩; rw [show lastL [(1, 5), (1, 3), (1, 70), (1, 7)] 1 = 70 by decide])
  go_ret
  exact ⟨rfl, H6.out.bel⟩
end Go.Proofs.YtmnlbheicedloabDoor
