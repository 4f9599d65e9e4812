/- What code.Reader's Int does. -/
import Derived.Test.YtgbdnclolgdojaaCodeKeep
import Derived.Test.YtgbdnclolgdojaaCodeAwake
namespace Go.Proofs.Ytgbdnclolgdojaa
open Go.ChangeShapes Go.WideShapes Go.ChangeAt Go.RowKit
set_option linter.unusedVariables false

theorem zag_odd (n : Nat) (h : n % 2 = 1) : zag n = -((n / 2 : Nat) : Int) - 1 := by rw [zag, if_pos h]
theorem zag_even (n : Nat) (h : ¬ n % 2 = 1) : zag n = ((n / 2 : Nat) : Int) := by rw [zag, if_neg h]

theorem rint_any (q : Nat) (s : ByteArray) (at' n k cd : Nat) (w : World) (h : Rd w q s at' 0) (hat : at' ≤ s.size) (hs : s.size ≤ 1000000) (hr : rdNum 0 0 (s.data.toList.drop at') = (n, k, cd)) :
    Calls Try.prog 31 #[.pointer (some ⟨q, 0, none⟩)] w
      fun e w' => e = .returned (.int .i64 (zag n)) ∧ Rd w' q s (at' + k) cd ∧ Same w w' q := by
  have hn := rd_lt _ n k cd hr
  have HR : Hid (rdNum 0 0 (s.data.toList.drop at') = (n, k, cd)) := hr
  clear hr
  have hn0 : (0 : Int) ≤ (n : Int) := by omega
  have hn1 : (n : Int) ≤ 18446744073709551615 := by omega
  by_cases ho : ((n : Int) % 2 == 1) = true
  · have HZ : Hid (zag n = -((n / 2 : Nat) : Int) - 1) := zag_odd n (by have := beq_iff_eq.1 ho; omega)
    go_enter Try.func31, Try.ntmps31
    go_wp2_with (go_at_call 37; refine (rnumber_any q s at' n k cd _ h hat hs HR.out).mono ?_; rintro e w' ⟨rfl, hR, hS⟩)
    go_ret
    exact ⟨ret_i (by rw [HZ.out]; omega), by assumption, by assumption⟩
  · have ho : ((n : Int) % 2 == 1) = false := by simpa using ho
    have HZ : Hid (zag n = ((n / 2 : Nat) : Int)) := zag_even n (by have := beq_eq_false_iff_ne.1 ho; omega)
    go_enter Try.func31, Try.ntmps31
    go_wp2_with (go_at_call 37; refine (rnumber_any q s at' n k cd _ h hat hs HR.out).mono ?_; rintro e w' ⟨rfl, hR, hS⟩)
    go_ret
    exact ⟨ret_i (by rw [HZ.out]; omega), by assumption, by assumption⟩

theorem rint_back (q : Nat) (a : Int) (w : World) (h : Rd w q ⟨(numB (zig a)).toArray⟩ 0 0) (h0 : -9223372036854775808 ≤ a) (h1 : a ≤ 9223372036854775807) :
    Calls Try.prog 31 #[.pointer (some ⟨q, 0, none⟩)] w
      fun e w' => e = .returned (.int .i64 a) ∧ Rd w' q ⟨(numB (zig a)).toArray⟩ (numB (zig a)).length 0 ∧ Same w w' q := by
  have hz := zig_lt a h0 h1
  have h10 := numB_len10 (zig a) hz
  refine (rint_any q _ 0 (zig a) (numB (zig a)).length 0 w h (Nat.zero_le _) ?_ (rd_string (zig a) hz)).mono ?_
  · show (numB (zig a)).toArray.size ≤ _
    simp; omega
  · rintro e w' ⟨rfl, hR, hS⟩
    rw [zag_zig] 
    rw [Nat.zero_add] at hR
    exact ⟨rfl, hR, hS⟩

end Go.Proofs.Ytgbdnclolgdojaa
