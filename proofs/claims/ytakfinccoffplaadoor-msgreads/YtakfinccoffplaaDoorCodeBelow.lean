/- What code.Reader's Below does. -/
import Derived.Test.YtakfinccoffplaaDoorCodeRI
import Derived.Test.YtakfinccoffplaaDoorCodeRefuse
namespace Go.Proofs.YtakfinccoffplaaDoor
open Go.ChangeShapes Go.WideShapes Go.ChangeAt Go.RowKit
set_option linter.unusedVariables false

theorem rint_stuck (q : Nat) (s : ByteArray) (at' c : Nat) (w : World) (h : Rd w q s at' c) (hc : c ≠ 0) :
    Calls Tryd.prog 27 #[.pointer (some ⟨q, 0, none⟩)] w fun e w' => e = .returned (.int .i64 0) ∧ w' = w := by
  go_enter Tryd.func27, Tryd.ntmps27
  go_wp2_with fail
  refine (rnumber_stuck q s at' c _ h hc).mono ?_
  rintro e w1 ⟨rfl, hw1⟩
  subst w1
  go_wp2
  go_ret
  exact ⟨rfl, rfl⟩

theorem rbelow_stuck (q : Nat) (s : ByteArray) (at' c : Nat) (most : Int) (w : World) (h : Rd w q s at' c) (hc : c ≠ 0) :
    Calls Tryd.prog 49 #[.pointer (some ⟨q, 0, none⟩), .int .i64 most] w fun e w' => e = .returned (.int .i64 0) ∧ w' = w := by
  have h1 := h.at
  have h2 := h.code
  have hb : ((c : Int) != 0) = true := bne_iff_ne.2 (by omega)
  go_enter Tryd.func49, Tryd.ntmps49
  go_wp2_with fail
  refine (rint_stuck q s at' c _ h hc).mono ?_
  rintro e w1 ⟨rfl, hw1⟩
  subst w1
  go_wp2
  go_ret
  exact ⟨rfl, rfl⟩

theorem rbelow_ok (q : Nat) (s : ByteArray) (at' n k : Nat) (y most : Int) (w : World) (h : Rd w q s at' 0) (hat : at' ≤ s.size) (hs : s.size ≤ 1000000) (hr : rdNum 0 0 (s.data.toList.drop at') = (n, k, 0))
    (hy : zag n = y) (h0 : 0 ≤ y) (hm : y < most) :
    Calls Tryd.prog 49 #[.pointer (some ⟨q, 0, none⟩), .int .i64 most] w
      fun e w' => e = .returned (.int .i64 y) ∧ Rd w' q s (at' + k) 0 ∧ Same w w' q := by
  have HR : Hid (rdNum 0 0 (s.data.toList.drop at') = (n, k, 0)) := hr
  have HY : Hid (zag n = y) := hy
  clear hr hy
  have h1 := h.at
  have h2 := h.code
  have hn0 : ¬ (y < 0) := by omega
  have hn1 : ¬ (most ≤ y) := by omega
  go_enter Tryd.func49, Tryd.ntmps49
  go_wp2_with fail
  refine (rint_any q s at' n k 0 _ h hat hs HR.out).mono ?_
  rw [HY.out]
  rintro e w1 ⟨rfl, hR, hS⟩
  have g2 := hR.code
  clear h1 h2
  go_wp2
  go_ret
  exact ⟨rfl, hR, hS⟩

theorem rint_val (q : Nat) (s : ByteArray) (at' n k cd : Nat) (y : Int) (w : World) (h : Rd w q s at' 0) (hat : at' ≤ s.size) (hs : s.size ≤ 1000000) (hr : rdNum 0 0 (s.data.toList.drop at') = (n, k, cd)) (hy : zag n = y) :
    Calls Tryd.prog 27 #[.pointer (some ⟨q, 0, none⟩)] w
      fun e w' => e = .returned (.int .i64 y) ∧ Rd w' q s (at' + k) cd ∧ Same w w' q := by
  subst hy; exact rint_any q s at' n k cd w h hat hs hr

theorem rbelow_bad (q : Nat) (s : ByteArray) (at' n k cd : Nat) (most : Int) (w : World) (h : Rd w q s at' 0) (hat : at' ≤ s.size) (hs : s.size ≤ 1000000) (hr : rdNum 0 0 (s.data.toList.drop at') = (n, k, cd)) (hc : cd ≠ 0) :
    Calls Tryd.prog 49 #[.pointer (some ⟨q, 0, none⟩), .int .i64 most] w
      fun e w' => e = .returned (.int .i64 0) ∧ Rd w' q s (at' + k) cd ∧ Same w w' q := by
  have HR : Hid (rdNum 0 0 (s.data.toList.drop at') = (n, k, cd)) := hr
  clear hr
  have h1 := h.at
  have hb : ((cd : Int) != 0) = true := bne_iff_ne.2 (by omega)
  go_enter Tryd.func49, Tryd.ntmps49
  go_wp2_with fail
  refine (rint_any q s at' n k cd _ h hat hs HR.out).mono ?_
  rintro e w1 ⟨rfl, hR, hS⟩
  have g2 := hR.code
  clear h1
  go_wp2
  go_ret
  exact ⟨rfl, hR, hS⟩

theorem rbelow_arg (q : Nat) (s : ByteArray) (at' n k : Nat) (y most : Int) (w : World) (h : Rd w q s at' 0) (hat : at' ≤ s.size) (hs : s.size ≤ 1000000) (hr : rdNum 0 0 (s.data.toList.drop at') = (n, k, 0))
    (hy : zag n = y) (hm : y < 0 ∨ most ≤ y) :
    Calls Tryd.prog 49 #[.pointer (some ⟨q, 0, none⟩), .int .i64 most] w
      fun e w' => e = .returned (.int .i64 0) ∧ Rd w' q s at' 1 ∧ Same w w' q := by
  have HR : Hid (rdNum 0 0 (s.data.toList.drop at') = (n, k, 0)) := hr
  have HY : Hid (zag n = y) := hy
  clear hr hy
  have h1 := h.at
  rcases Int.lt_or_le y 0 with hn0 | hn0
  · go_enter Tryd.func49, Tryd.ntmps49
    go_wp2_with fail
    refine (rint_any q s at' n k 0 _ h hat hs HR.out).mono ?_
    rw [HY.out]
    rintro e w1 ⟨rfl, hR, hS⟩
    have g2 := hR.code
    clear h1
    go_wp2_with fail
    refine (refuse_any q s _ 0 at' w1 hR).mono ?_
    rintro e w2 ⟨rfl, hR2, hS2⟩
    go_wp2
    go_ret
    exact ⟨rfl, hR2, hS.trans hS2⟩
  · have hn1 : most ≤ y := by omega
    clear hm
    have hn0 : ¬ y < 0 := by omega
    go_enter Tryd.func49, Tryd.ntmps49
    go_wp2_with fail
    refine (rint_any q s at' n k 0 _ h hat hs HR.out).mono ?_
    rw [HY.out]
    rintro e w1 ⟨rfl, hR, hS⟩
    have g2 := hR.code
    clear h1
    go_wp2_with fail
    refine (refuse_any q s _ 0 at' w1 hR).mono ?_
    rintro e w2 ⟨rfl, hR2, hS2⟩
    go_wp2
    go_ret
    exact ⟨rfl, hR2, hS.trans hS2⟩
end Go.Proofs.YtakfinccoffplaaDoor
