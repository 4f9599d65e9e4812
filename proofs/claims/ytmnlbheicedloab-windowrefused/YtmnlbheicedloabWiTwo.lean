/- Two windows side by side. -/
import Derived.Test.YtmnlbheicedloabWiLaw
namespace Go.Proofs.Ytmnlbheicedloab
open Go.ChangeShapes Go.WideShapes Go.ChangeAt Go.RowKit
set_option linter.unusedVariables false

/-- Two windows, each in blocks of its own, that lie from w0's end on; all below as it was. -/
structure Two (w0 w : World) (r1 : Nat) (L1 : List (Int × Int)) (r2 : Nat) (L2 : List (Int × Int)) : Prop where
  win : ∃ g1 g2, WinAt w r1 g1 L1 ∧ WinAt w r2 g2 L2 ∧ (∀ b, winB r1 g1 b → w0.heap.size ≤ b) ∧ (∀ b, winB r2 g2 b → w0.heap.size ≤ b) ∧ ∀ b, winB r1 g1 b → ¬ winB r2 g2 b
  bel : Below w0.heap.size w0 w
theorem Two.swap {w0 w : World} {r1 r2 : Nat} {L1 L2 : List (Int × Int)} (h : Two w0 w r1 L1 r2 L2) : Two w0 w r2 L2 r1 L1 := by
  obtain ⟨⟨g1, g2, h1, h2, b1, b2, hd⟩, hb⟩ := h
  exact ⟨⟨g2, g1, h2, h1, b2, b1, fun b x y => hd b y x⟩, hb⟩
theorem Two.below {w0 w w' : World} {r1 r2 : Nat} {L1 L2 : List (Int × Int)} (h : Two w0 w r1 L1 r2 L2) (hb : Below w.heap.size w w') : Two w0 w' r1 L1 r2 L2 := by
  obtain ⟨⟨g1, g2, h1, h2, b1, b2, hd⟩, hbl⟩ := h
  exact ⟨⟨g1, g2, h1.below hb, h2.below hb, b1, b2, hd⟩, hbl.trans (hb.mono hbl.size)⟩
theorem Two.drew {w0 w : World} {r1 r2 : Nat} {L1 L2 : List (Int × Int)} (h : Two w0 w r1 L1 r2 L2) : Two w0 w.drew r1 L1 r2 L2 := h.below ⟨rfl, rfl, rfl, Nat.le_refl _, fun _ _ => rfl⟩
theorem Two.drewN {w0 w : World} {r1 r2 : Nat} {L1 L2 : List (Int × Int)} (h : Two w0 w r1 L1 r2 L2) (n : Nat) : Two w0 (w.drewN n) r1 L1 r2 L2 := h.below ⟨rfl, rfl, rfl, Nat.le_refl _, fun _ _ => rfl⟩
theorem Two.come {w0 w : World} {r1 r2 : Nat} {L1 L2 : List (Int × Int)} (h : Two w0 w r1 L1 r2 L2) (p n : Int) (hn : EvOk p n) :
    Calls Try.prog 8 #[.pointer (some ⟨r1, 0, none⟩), .int .i64 p, .int .i64 n] w fun e w' => e = .returned (.tuple #[.int .i64 (whatL L1 p n), .nilIface]) ∧ Two w0 w' r1 (comeL L1 p n) r2 L2 := by
  obtain ⟨⟨g1, g2, h1, h2, b1, b2, hd⟩, hbl⟩ := h
  refine (come_any r1 g1 L1 p n w h1 hn).mono ?_
  rintro e w' ⟨rfl, g', hg', hk, hor⟩
  have hB := hbl.size
  have hnew : ∀ b, winB r1 g' b → winB r1 g1 b ∨ w.heap.size ≤ b := by
    rintro b (hb | hb)
    · exact .inl (.inl hb)
    · rcases hor with e | ⟨b', e, h'⟩
      · exact .inl (.inr (by rw [← e]; exact hb))
      · rw [e] at hb; cases hb; exact .inr h'
  refine ⟨rfl, ⟨g', g2, hg', h2.kw hk (fun b hb q => hd b q hb), fun b hb => ?_, b2, fun b hb q => ?_⟩, hbl.trans (hk.below b1 hB)⟩
  · rcases hnew b hb with q | q
    · exact b1 b q
    · omega
  · rcases hnew b hb with q' | q'
    · exact hd b q' q
    · have := h2.blocks q; omega
theorem Two.come2 {w0 w : World} {r1 r2 : Nat} {L1 L2 : List (Int × Int)} (h : Two w0 w r1 L1 r2 L2) (p n : Int) (hn : EvOk p n) :
    Calls Try.prog 8 #[.pointer (some ⟨r2, 0, none⟩), .int .i64 p, .int .i64 n] w fun e w' => e = .returned (.tuple #[.int .i64 (whatL L2 p n), .nilIface]) ∧ Two w0 w' r1 L1 r2 (comeL L2 p n) := by
  refine (h.swap.come p n hn).mono ?_
  rintro e w' ⟨rfl, h'⟩
  exact ⟨rfl, h'.swap⟩
theorem Two.last {w0 w : World} {r1 r2 : Nat} {L1 L2 : List (Int × Int)} (h : Two w0 w r1 L1 r2 L2) (p : Int) :
    Calls Try.prog 10 #[.pointer (some ⟨r1, 0, none⟩), .int .i64 p] w fun e w' => e = .returned (.int .i64 (lastL L1 p)) ∧ w' = w := by
  obtain ⟨⟨g1, g2, h1, h2, b1, b2, hd⟩, hbl⟩ := h
  exact lastw_any r1 g1 L1 p w h1
theorem Two.last2 {w0 w : World} {r1 r2 : Nat} {L1 L2 : List (Int × Int)} (h : Two w0 w r1 L1 r2 L2) (p : Int) :
    Calls Try.prog 10 #[.pointer (some ⟨r2, 0, none⟩), .int .i64 p] w fun e w' => e = .returned (.int .i64 (lastL L2 p)) ∧ w' = w := h.swap.last p
theorem Two.new (w : World) : Two w ((w.alloc (.cells #[.map none] 25)).alloc (.cells #[.map none] 25)) w.heap.size [] (w.heap.size + 1) [] := by
  have h1 := (WinAt.new w).below (below_oneW _ (.cells #[.map none] 25))
  have h2 := WinAt.new (w.alloc (.cells #[.map none] 25))
  have e : (w.alloc (.cells #[.map none] 25)).heap.size = w.heap.size + 1 := by simp
  rw [e] at h2
  refine ⟨⟨none, none, h1, h2, ?_, ?_, ?_⟩, (below_oneW _ _).alloc (by simp) _⟩
  · rintro b (rfl | hb)
    · exact Nat.le_refl _
    · cases hb
  · rintro b (rfl | hb)
    · omega
    · cases hb
  · rintro b (rfl | hb) (hc | hc)
    · omega
    · cases hc
    · cases hb
    · cases hb
/-- Where both say the same of a publisher. -/
theorem Two.lasts {w0 w : World} {r1 r2 : Nat} {L1 L2 : List (Int × Int)} (h : Two w0 w r1 L1 r2 L2) (p l : Int) (e1 : lastL L1 p = l) (e2 : lastL L2 p = l) (r : Nat) (hr : r = r1 ∨ r = r2) :
    Calls Try.prog 10 #[.pointer (some ⟨r, 0, none⟩), .int .i64 p] w fun e w' => e = .returned (.int .i64 l) ∧ w' = w := by
  rcases hr with rfl | rfl
  · rw [← e1]; exact h.last p
  · rw [← e2]; exact h.last2 p
/-- Two lists say the same of a publisher. -/
def Alike (p : Int) (L1 L2 : List (Int × Int)) : Prop := lastL L1 p = lastL L2 p ∧ ∀ n, (p, n) ∈ L1 ↔ (p, n) ∈ L2
theorem Alike.what {p : Int} {L1 L2 : List (Int × Int)} (h : Alike p L1 L2) (n : Int) : whatL L1 p n = whatL L2 p n := by
  unfold whatL
  rw [h.1]
  simp only [h.2 n]
theorem alike_nil (p : Int) : Alike p [] [] := ⟨rfl, fun n => Iff.rfl⟩
theorem Alike.snoc {p : Int} {L1 L2 : List (Int × Int)} (h : Alike p L1 L2) (q n : Int) : Alike p (L1 ++ [(q, n)]) (L2 ++ [(q, n)]) := by
  refine ⟨by rw [lastL_snoc, lastL_snoc, h.1], fun m => ?_⟩
  simp only [List.mem_append, h.2 m]
theorem Alike.come {p : Int} {L1 L2 : List (Int × Int)} (h : Alike p L1 L2) (n : Int) : Alike p (comeL L1 p n) (comeL L2 p n) := by
  by_cases e : whatL L2 p n = 1
  · rw [comeL_new (by rw [h.what]; exact e), comeL_new e]; exact h.snoc p n
  · rw [comeL_not (by rw [h.what]; exact e), comeL_not e]; exact h
theorem Alike.other {p q : Int} {L1 L2 : List (Int × Int)} (h : Alike p L1 L2) (n : Int) (hq : q ≠ p) : Alike p (comeL L1 q n) L2 := by
  by_cases e : whatL L1 q n = 1
  · rw [comeL_new e]
    refine ⟨by rw [lastL_other L1 n hq, h.1], fun m => ?_⟩
    have : ¬ p = q := fun x => hq x.symm
    simp [this, h.2 m]
  · rw [comeL_not e]; exact h
end Go.Proofs.Ytmnlbheicedloab
