/- wigwagref09.Ints: are two lists the same? -/
import Derived.Test.YtkkkldglceiiiaaGreatPrList
import Derived.Deep.QuietTactic
namespace Go.Proofs.YtkkkldglceiiiaaGreat
open Go.ChangeShapes Go.WideShapes Go.ChangeAt Go.RowKit Go.Deep
set_option linter.unusedVariables false

theorem below_drew {B : Nat} {w w' : World} (h : Below B w w') (n : Nat) : Below B w (w'.drewN n) := ⟨h.os, h.tape, h.output, h.size, h.block⟩

def intsB (l k : List Int) : Bool := decide (l = k)
theorem ints_no {l k : List Int} (h : l.length ≠ k.length) : intsB l k = false := by
  unfold intsB; exact decide_eq_false fun e => h (by rw [e])
theorem ints_at {l k : List Int} (j : Nat) (h : l.getD j 0 ≠ k.getD j 0) : intsB l k = false := by
  unfold intsB; exact decide_eq_false fun e => h (by rw [e])
theorem ints_all {l k : List Int} (h0 : l.length = k.length) (h : ∀ j, j < l.length → l.getD j 0 = k.getD j 0) : intsB l k = true := by
  unfold intsB
  refine decide_eq_true (List.ext_getElem h0 fun i h1 h2 => ?_)
  have := h i h1
  simpa [List.getD, h1, h2] using this

set_option maxHeartbeats 1000000 in
theorem ints_any (a : Option Addr) (n c : Nat) (l : List Int) (b : Option Addr) (m d : Nat) (k : List Int) (w : World) (hl : InIn w a n l) (hk : InIn w b m k) :
    Calls Tryz.prog 18 #[.slice a n c, .slice b m d] w fun e w' => e = .returned (.bool (intsB l k)) ∧ Below w.heap.size w w' := by
  have HL : Hid (InIn w a n l) := hl
  have HK : Hid (InIn w b m k) := hk
  have h1 := hl.2.1
  have h2 := hk.2.1
  clear hl hk
  by_cases q : n = m
  · subst q
    have hq : ((n : Int) != (n : Int)) = false := by simp
    go_enter Tryz.func18, Tryz.ntmps18
    go_wp2
    go_loopg [13] n (fun kx s wr => ∃ j : Nat, s = .int .i64 j ∧ j ≤ n ∧ kx = n - j ∧ Hid (Below w.heap.size w wr) ∧ Hid (∀ i, i < j → l.getD i 0 = k.getD i 0))
    case atStart => exact ⟨0, rfl, Nat.zero_le _, rfl, (Below.refl _ _ : Below w.heap.size w w), (fun i hi => absurd hi (Nat.not_lt_zero _) : ∀ i, i < 0 → l.getD i 0 = k.getD i 0)⟩
    case round =>
      obtain ⟨j, rfl, hj, rfl, HB, I⟩ := hrel
      by_cases hlt : j < n
      · obtain ⟨b1, o1, rfl, hb1, _, hc1⟩ := (HL.out.below (Nat.le_refl _) HB.out).one (v := Value.int .i64) (fun _ => rfl) (i := j) hlt
        obtain ⟨b2, o2, rfl, hb2, _, hc2⟩ := (HK.out.below (Nat.le_refl _) HB.out).one (v := Value.int .i64) (fun _ => rfl) (i := j) hlt
        by_cases hx : l.getD j 0 = k.getD j 0
        · have HX : Hid _ := hx
          have I' : Hid (∀ i, i < j + 1 → l.getD i 0 = k.getD i 0) := fun i hi => by
            by_cases e : i = j
            · rw [e]; exact hx
            · exact I.out i (by omega)
          rw [← hx] at hc2
          generalize l.getD j 0 = x at hc1 hc2
          have hne : (x != x) = false := by simp
          clear hx
          go_wp2_with (go_quiet (fail))
          go_roundg (n - (j + 1))
          case measure => omega
          case rel => exact ⟨j + 1, by go_num, by omega, rfl, below_drew HB.out _, I'⟩
        · have HX : Hid (intsB l k = false) := ints_at j hx
          generalize l.getD j 0 = x at hc1 hx
          generalize k.getD j 0 = y at hc2 hx
          have hne : (x != y) = true := by simpa using hx
          go_wp2_with (go_quiet (fail))
          go_ret
          exact ⟨ret_b HX.out.symm, below_drew HB.out _⟩
      · go_wp2
        go_ret
        exact ⟨ret_b (ints_all (by rw [HL.out.1, HK.out.1]) (fun i hi => I.out i (by have := HL.out.1; omega))).symm, HB.out⟩
  · have E : Hid (intsB l k = false) := ints_no (by rw [HL.out.1, HK.out.1]; exact q)
    have hq : ((n : Int) != (m : Int)) = true := by simp; omega
    go_enter Tryz.func18, Tryz.ntmps18
    go_wp2
    go_ret
    exact ⟨ret_b E.out.symm, Below.refl _ _⟩
end Go.Proofs.YtkkkldglceiiiaaGreat
