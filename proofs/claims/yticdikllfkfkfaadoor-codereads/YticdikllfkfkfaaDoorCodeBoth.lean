/- The program's reader and the document's, side by side: the same answer, the same place, the same error. -/
import Derived.Test.YticdikllfkfkfaaDoorCodeCurT
import Derived.Test.YticdikllfkfkfaaDoorCodeBelow
namespace Go.Proofs.YticdikllfkfkfaaDoor
open Go.ChangeShapes Go.WideShapes Go.ChangeAt Go.RowKit
set_option linter.unusedVariables false

theorem text_stuck (q : Nat) (s : ByteArray) (at' c : Nat) (most : Int) (w : World) (h : Rd w q s at' c) (hc : c ≠ 0) :
    Calls Tryd.prog 17 #[.pointer (some ⟨q, 0, none⟩), .int .i64 most] w fun e w' => e = .returned (.string ByteArray.empty) ∧ w' = w := by
  have h1 := h.at
  have h2 := h.code
  have hb : ((c : Int) != 0) = true := bne_iff_ne.2 (by omega)
  go_enter Tryd.func17, Tryd.ntmps17
  go_wp2_with fail
  refine (rnumber_stuck q s at' c _ h hc).mono ?_
  rintro e w1 ⟨rfl, hw1⟩
  subst w1
  go_wp2
  go_ret
  exact ⟨rfl, rfl⟩

/-- Both calls answer v, and stand at p with code d. -/
def BothNum (s : ByteArray) (at' c v p d : Nat) : Prop :=
  p ≤ s.size ∧ (∀ w q, Rd w q s at' c → Calls Tryd.prog 13 #[.pointer (some ⟨q, 0, none⟩)] w fun e w' => e = .returned (.int .u64 v) ∧ Rd w' q s p d ∧ Same w w' q)
  ∧ (∀ w, Calls Tryd.prog 12 #[curV s at' c] w fun e w' => e = .returned (.tuple #[curV s p d, .int .u64 v]) ∧ Below w.heap.size w w')
def BothInt (s : ByteArray) (at' c : Nat) (v : Int) (p d : Nat) : Prop :=
  p ≤ s.size ∧ (∀ w q, Rd w q s at' c → Calls Tryd.prog 15 #[.pointer (some ⟨q, 0, none⟩)] w fun e w' => e = .returned (.int .i64 v) ∧ Rd w' q s p d ∧ Same w w' q)
  ∧ (∀ w, Calls Tryd.prog 14 #[curV s at' c] w fun e w' => e = .returned (.tuple #[curV s p d, .int .i64 v]) ∧ Below w.heap.size w w')
def BothBelow (s : ByteArray) (at' c : Nat) (most v : Int) (p d : Nat) : Prop :=
  p ≤ s.size ∧ (∀ w q, Rd w q s at' c → Calls Tryd.prog 19 #[.pointer (some ⟨q, 0, none⟩), .int .i64 most] w fun e w' => e = .returned (.int .i64 v) ∧ Rd w' q s p d ∧ Same w w' q)
  ∧ (∀ w, Calls Tryd.prog 18 #[curV s at' c, .int .i64 most] w fun e w' => e = .returned (.tuple #[curV s p d, .int .i64 v]) ∧ Below w.heap.size w w')
def BothText (s : ByteArray) (at' c : Nat) (most : Int) (v : ByteArray) (p d : Nat) : Prop :=
  p ≤ s.size ∧ (∀ w q, Rd w q s at' c → Calls Tryd.prog 17 #[.pointer (some ⟨q, 0, none⟩), .int .i64 most] w fun e w' => e = .returned (.string v) ∧ Rd w' q s p d ∧ Same w w' q)
  ∧ (∀ w, Calls Tryd.prog 16 #[curV s at' c, .int .i64 most] w fun e w' => e = .returned (.tuple #[curV s p d, .string v]) ∧ Below w.heap.size w w')

theorem taken_le (s : ByteArray) (at' n k cd : Nat) (hat : at' ≤ s.size) (hr : rdNum 0 0 (s.data.toList.drop at') = (n, k, cd)) : at' + k ≤ s.size := by
  have q := rd_taken 0 0 (s.data.toList.drop at')
  rw [hr] at q
  simp at q
  omega
theorem stuck_of {q : Nat} {s : ByteArray} {at' c : Nat} {v : Value} {f : FuncId} {args : Array Value} {w : World} (h : Rd w q s at' c)
    (H : Calls Tryd.prog f args w fun e w' => e = .returned v ∧ w' = w) : Calls Tryd.prog f args w fun e w' => e = .returned v ∧ Rd w' q s at' c ∧ Same w w' q :=
  H.mono (by rintro e w' ⟨rfl, rfl⟩; exact ⟨rfl, h, Same.refl _ _⟩)

theorem both_num (s : ByteArray) (at' c : Nat) (hat : at' ≤ s.size) (hs : s.size ≤ 1000000) : ∃ v p d, BothNum s at' c v p d := by
  by_cases h0 : c = 0
  · subst h0
    obtain ⟨n, k, cd, hr⟩ : ∃ n k cd, rdNum 0 0 (s.data.toList.drop at') = (n, k, cd) := ⟨_, _, _, rfl⟩
    exact ⟨n, at' + k, cd, taken_le s at' n k cd hat hr, fun w q h => rnumber_any q s at' n k cd w h hat hs hr, fun w => cnumber_any s at' n k cd w hat hs hr⟩
  · exact ⟨0, at', c, hat, fun w q h => stuck_of h (rnumber_stuck q s at' c w h h0), fun w => cnumber_stuck s at' c w h0⟩

theorem both_int (s : ByteArray) (at' c : Nat) (hat : at' ≤ s.size) (hs : s.size ≤ 1000000) : ∃ v p d, BothInt s at' c v p d := by
  by_cases h0 : c = 0
  · subst h0
    obtain ⟨n, k, cd, hr⟩ : ∃ n k cd, rdNum 0 0 (s.data.toList.drop at') = (n, k, cd) := ⟨_, _, _, rfl⟩
    have hn := rd_lt _ n k cd hr
    exact ⟨zag n, at' + k, cd, taken_le s at' n k cd hat hr, fun w q h => rint_any q s at' n k cd w h hat hs hr, fun w => cint_of s at' 0 (at' + k) cd n _ w (by omega) rfl (fun w => cnumber_any s at' n k cd w hat hs hr)⟩
  · exact ⟨0, at', c, hat, fun w q h => stuck_of h (rint_stuck q s at' c w h h0), fun w => cint_of s at' c at' c 0 0 w (by omega) rfl (fun w => cnumber_stuck s at' c w h0)⟩

theorem both_below (s : ByteArray) (at' c : Nat) (most : Int) (hat : at' ≤ s.size) (hs : s.size ≤ 1000000) : ∃ v p d, BothBelow s at' c most v p d := by
  by_cases h0 : c = 0
  · subst h0
    obtain ⟨n, k, cd, hr⟩ : ∃ n k cd, rdNum 0 0 (s.data.toList.drop at') = (n, k, cd) := ⟨_, _, _, rfl⟩
    have hn := rd_lt _ n k cd hr
    have hk := taken_le s at' n k cd hat hr
    have H : ∀ w, Calls Tryd.prog 14 #[curV s at' 0] w fun e w' => e = .returned (.tuple #[curV s (at' + k) cd, .int .i64 (zag n)]) ∧ Below w.heap.size w w' :=
      fun w => cint_of s at' 0 (at' + k) cd n _ w (by omega) rfl (fun w => cnumber_any s at' n k cd w hat hs hr)
    by_cases hcd : cd = 0
    · subst hcd
      by_cases hb : zag n < 0 ∨ most ≤ zag n
      · exact ⟨0, at', 1, hat, fun w q h => rbelow_arg q s at' n k _ most w h hat hs hr rfl hb, fun w => cbelow_arg s at' (at' + k) (zag n) most w hb H⟩
      · exact ⟨zag n, at' + k, 0, hk, fun w q h => rbelow_ok q s at' n k _ most w h hat hs hr rfl (by omega) (by omega), fun w => cbelow_ok s at' (at' + k) (zag n) most w (by omega) (by omega) H⟩
    · exact ⟨0, at' + k, cd, hk, fun w q h => rbelow_bad q s at' n k cd most w h hat hs hr hcd, fun w => cbelow_err s at' 0 (at' + k) cd (zag n) most w hcd H⟩
  · exact ⟨0, at', c, hat, fun w q h => stuck_of h (rbelow_stuck q s at' c most w h h0), fun w => cbelow_err s at' c at' c 0 most w h0 (fun w => cint_of s at' c at' c 0 0 w (by omega) rfl (fun w => cnumber_stuck s at' c w h0))⟩

theorem both_text (s : ByteArray) (at' c : Nat) (most : Int) (hat : at' ≤ s.size) (hs : s.size ≤ 1000000) (hm : most ≤ 9223372036854775807) : ∃ v p d, BothText s at' c most v p d := by
  by_cases h0 : c = 0
  · subst h0
    obtain ⟨n, k, cd, hr⟩ : ∃ n k cd, rdNum 0 0 (s.data.toList.drop at') = (n, k, cd) := ⟨_, _, _, rfl⟩
    have hn := rd_lt _ n k cd hr
    have hk := taken_le s at' n k cd hat hr
    have H : ∀ w, Calls Tryd.prog 12 #[curV s at' 0] w fun e w' => e = .returned (.tuple #[curV s (at' + k) cd, .int .u64 n]) ∧ Below w.heap.size w w' := fun w => cnumber_any s at' n k cd w hat hs hr
    by_cases hcd : cd = 0
    · subst hcd
      by_cases ha : max most 0 < (n : Int)
      · exact ⟨ByteArray.empty, at', 1, hat, fun w q h => rtext_arg q s at' n k most w h hat hs hr hm ha, fun w => ctext_arg s at' (at' + k) n most w (by omega) hm ha H⟩
      · by_cases he : at' + k + n ≤ s.size
        · exact ⟨s.extract (at' + k) (at' + k + n), at' + k + n, 0, he, fun w q h => rtext_ok q s at' n k (at' + k) rfl most w h hat hs hr hm (by omega) he, fun w => ctext_ok s at' (at' + k) n most w hs (by omega) hm (by omega) hk he H⟩
        · exact ⟨ByteArray.empty, at' + k, 10, hk, fun w q h => rtext_end q s at' n k (at' + k) rfl most w h hat hs hr hm (by omega) hk (by omega), fun w => ctext_end s at' (at' + k) n most w hs (by omega) hm (by omega) hk (by omega) H⟩
    · exact ⟨ByteArray.empty, at' + k, cd, hk, fun w q h => rtext_bad q s at' n k cd most w h hat hs hr hcd, fun w => ctext_err s at' 0 (at' + k) cd n most w hcd H⟩
  · exact ⟨ByteArray.empty, at', c, hat, fun w q h => stuck_of h (text_stuck q s at' c most w h h0), fun w => ctext_err s at' c at' c 0 most w h0 (fun w => cnumber_stuck s at' c w h0)⟩
end Go.Proofs.YticdikllfkfkfaaDoor
