/- What code.Reader's Text does. -/
import Derived.Test.YtgbdnclolgdojaaCodeKeep
import Derived.Test.YtgbdnclolgdojaaCodeAwake
import Derived.Test.YtgbdnclolgdojaaCodeRefuse
import Derived.Laws.DeepStrings4
namespace Go.Proofs.Ytgbdnclolgdojaa
open Go.ChangeShapes Go.WideShapes Go.ChangeAt Go.RowKit
set_option linter.unusedVariables false

theorem rtext_bad (q : Nat) (s : ByteArray) (at' n k cd : Nat) (most : Int) (w : World) (h : Rd w q s at' 0) (hat : at' ≤ s.size) (hs : s.size ≤ 1000000) (hr : rdNum 0 0 (s.data.toList.drop at') = (n, k, cd)) (hc : cd ≠ 0) :
    Calls Try.prog 32 #[.pointer (some ⟨q, 0, none⟩), .int .i64 most] w
      fun e w' => e = .returned (.string ByteArray.empty) ∧ Rd w' q s (at' + k) cd ∧ Same w w' q := by
  have HR : Hid (rdNum 0 0 (s.data.toList.drop at') = (n, k, cd)) := hr
  clear hr
  have h1 := h.at
  have hb : ((cd : Int) != 0) = true := bne_iff_ne.2 (by omega)
  go_enter Try.func32, Try.ntmps32
  go_wp2_with fail
  refine (rnumber_any q s at' n k cd _ h hat hs HR.out).mono ?_
  rintro e w1 ⟨rfl, hR, hS⟩
  have g2 := hR.code
  go_wp2
  go_ret
  exact ⟨rfl, hR, hS⟩

theorem rtext_arg (q : Nat) (s : ByteArray) (at' n k : Nat) (most : Int) (w : World) (h : Rd w q s at' 0) (hat : at' ≤ s.size) (hs : s.size ≤ 1000000) (hr : rdNum 0 0 (s.data.toList.drop at') = (n, k, 0))
    (hm : most ≤ 9223372036854775807) (hn : max most 0 < (n : Int)) :
    Calls Try.prog 32 #[.pointer (some ⟨q, 0, none⟩), .int .i64 most] w
      fun e w' => e = .returned (.string ByteArray.empty) ∧ Rd w' q s at' 1 ∧ Same w w' q := by
  have hlt := rd_lt _ n k 0 hr
  have HR : Hid (rdNum 0 0 (s.data.toList.drop at') = (n, k, 0)) := hr
  clear hr
  have h1 := h.at
  have m0 : (0 : Int) ≤ max most 0 := by omega
  have m1 : max most 0 ≤ 9223372036854775807 := by omega
  go_enter Try.func32, Try.ntmps32
  go_wp2_with fail
  refine (rnumber_any q s at' n k 0 _ h hat hs HR.out).mono ?_
  rintro e w1 ⟨rfl, hR, hS⟩
  have g1 := hR.at
  have g2 := hR.code
  have gf := hR.free
  have gl := hR.lt
  go_wp2_with fail
  all_goals refine (refuse_any q s _ 0 at' w1 hR).mono ?_
  all_goals rintro e w2 ⟨rfl, hR2, hS2⟩
  all_goals go_wp2
  all_goals go_ret
  all_goals exact ⟨rfl, hR2, hS.trans hS2⟩

theorem rtext_end (q : Nat) (s : ByteArray) (at' n k p : Nat) (hp : p = at' + k) (most : Int) (w : World) (h : Rd w q s at' 0) (hat : at' ≤ s.size) (hs : s.size ≤ 1000000) (hr : rdNum 0 0 (s.data.toList.drop at') = (n, k, 0))
    (hm : most ≤ 9223372036854775807) (hn : (n : Int) ≤ max most 0) (hk : p ≤ s.size) (he : s.size < p + n) :
    Calls Try.prog 32 #[.pointer (some ⟨q, 0, none⟩), .int .i64 most] w
      fun e w' => e = .returned (.string ByteArray.empty) ∧ Rd w' q s p 10 ∧ Same w w' q := by
  have hlt := rd_lt _ n k 0 hr
  have HR : Hid (rdNum 0 0 (s.data.toList.drop at') = (n, k, 0)) := hr
  clear hr
  have HP : Hid (p = at' + k) := hp
  clear hp
  have h1 := h.at
  have m0 : (0 : Int) ≤ max most 0 := by omega
  have m1 : max most 0 ≤ 9223372036854775807 := by omega
  go_enter Try.func32, Try.ntmps32
  go_wp2_with fail
  refine (rnumber_any q s at' n k 0 _ h hat hs HR.out).mono ?_
  rintro e w1 ⟨rfl, hR0, hS⟩
  have hR : Rd w1 q s p 0 := by rw [HP.out]; exact hR0
  clear hR0
  have g0 := hR.text
  have g1 := hR.at
  have g2 := hR.code
  have gf := hR.free
  have gl := hR.lt
  have hpi : (p : Int) ≤ (s.size : Int) := by omega
  have hei : (s.size : Int) - (p : Int) < (n : Int) := by omega
  go_wp2_with fail
  all_goals go_quiet (fail)
  all_goals go_wp2
  all_goals go_ret
  all_goals exact ⟨rfl, (hR.drewN _).setCode 10, hS.trans ((Same.drewN _ _ _).trans (Same.setCell _ _ _ _))⟩

theorem slice_mid (s : ByteArray) (p n : Nat) (h : p + n ≤ s.size) (w : World) :
    (Instr.slice 9 (.string s) (some (.int .i64 (p : Int))) (some (.int .i64 ((p : Int) + (n : Int)))) none).run Try.prog w = .ok (.string (s.extract p (p + n))) w := by
  rw [run_slice_string_if w 9 s .i64 .i64 (p : Int) ((p : Int) + (n : Int)) Try.underlying9, if_pos ⟨by omega, by omega⟩, if_pos ⟨by omega, by omega⟩]
  have e1 : ((p : Int)).toNat = p := by omega
  have e2 : ((p : Int) + (n : Int)).toNat = p + n := by omega
  rw [e1, e2]

theorem rtext_ok (q : Nat) (s : ByteArray) (at' n k p : Nat) (hp : p = at' + k) (most : Int) (w : World) (h : Rd w q s at' 0) (hat : at' ≤ s.size) (hs : s.size ≤ 1000000) (hr : rdNum 0 0 (s.data.toList.drop at') = (n, k, 0))
    (hm : most ≤ 9223372036854775807) (hn : (n : Int) ≤ max most 0) (he : p + n ≤ s.size) :
    Calls Try.prog 32 #[.pointer (some ⟨q, 0, none⟩), .int .i64 most] w
      fun e w' => e = .returned (.string (s.extract p (p + n))) ∧ Rd w' q s (p + n) 0 ∧ Same w w' q := by
  have hlt := rd_lt _ n k 0 hr
  have HR : Hid (rdNum 0 0 (s.data.toList.drop at') = (n, k, 0)) := hr
  clear hr
  have HP : Hid (p = at' + k) := hp
  clear hp
  have h1 := h.at
  have m0 : (0 : Int) ≤ max most 0 := by omega
  have m1 : max most 0 ≤ 9223372036854775807 := by omega
  go_enter Try.func32, Try.ntmps32
  go_wp2_with fail
  refine (rnumber_any q s at' n k 0 _ h hat hs HR.out).mono ?_
  rintro e w1 ⟨rfl, hR0, hS⟩
  have hR : Rd w1 q s p 0 := by rw [HP.out]; exact hR0
  clear hR0
  have g0 := hR.text
  have g1 := hR.at
  have g2 := hR.code
  have gf := hR.free
  have gl := hR.lt
  have hpi : (p : Int) ≤ (s.size : Int) := by omega
  have hei : (n : Int) ≤ (s.size : Int) - (p : Int) := by omega
  have hsl := slice_mid s p n he
  go_wp2_with fail
  all_goals go_quiet (fail)
  all_goals go_wp2_with fail
  all_goals go_quiet (fail)
  all_goals go_wp2
  all_goals go_ret
  all_goals exact ⟨rfl, (hR.drewN _).setAt (p + n), hS.trans ((Same.drewN _ _ _).trans (Same.setCell _ _ _ _))⟩
end Go.Proofs.Ytgbdnclolgdojaa
