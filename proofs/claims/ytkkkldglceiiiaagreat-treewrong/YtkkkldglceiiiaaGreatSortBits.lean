/- math/bits.Len of small numbers; slices' nextPowerOfTwo and xorshift. -/
import Derived.Test.YtkkkldglceiiiaaGreatSortPIns
import Derived.Sort.LotD5
import Derived.Lib.BitFns
import Derived.Lib.Walk
namespace Go.Proofs.YtkkkldglceiiiaaGreat
open Go.ChangeShapes Go.WideShapes Go.ChangeAt Go.RowKit
open Go.Sort (swp ltInt bitsLen xorNext xorNextN)
set_option linter.unusedVariables false

set_option maxRecDepth 10000 in
theorem tab_len : ∀ n, n < 64 → (Lib.len8tab[n]!).toNat = bitsLen n := by decide
theorem tab_at (n : Nat) (h : n < Lib.len8tab.size) (hn : n < 64) : wrap64 (wrap64 ((Lib.len8tab[n]'h).toNat : Int)) = (bitsLen n : Int) := by
  have q := tab_len n hn
  rw [getElem!_pos Lib.len8tab n h] at q
  have l : (Lib.len8tab[n]'h).toNat < 256 := (Lib.len8tab[n]'h).toNat_lt
  have w1 : wrap64 ((Lib.len8tab[n]'h).toNat : Int) = ((Lib.len8tab[n]'h).toNat : Int) := IntWalk.wrap64_in _ (by omega)
  rw [w1, w1, q]

set_option maxHeartbeats 1000000 in
set_option maxRecDepth 100000 in
theorem len64_any (x : Int) (w : World) (h0 : 0 ≤ x) (hx : x < 64) :
    Calls Tryz.prog 57 #[.int .u64 x] w fun e w' => e = .returned (.int .i64 (bitsLen x.toNat)) ∧ w' = w := by
  go_enter Tryz.func57, Tryz.ntmps57
  go_wp2
  go_ret
  refine ⟨congrArg Ending.returned (congrArg (Value.int IntKind.i64) ?_), rfl⟩
  exact tab_at x.toNat _ (by omega)
theorem len_any (x : Int) (w : World) (h0 : 0 ≤ x) (hx : x < 64) :
    Calls Tryz.prog 41 #[.int .u64 x] w fun e w' => e = .returned (.int .i64 (bitsLen x.toNat)) ∧ w' = w := by
  go_enter Tryz.func41, Tryz.ntmps41
  go_wp2_with (go_at_call 57; refine (len64_any x _ h0 hx).mono ?_; rintro e w' ⟨rfl, rfl⟩)
  go_ret
  exact ⟨rfl, rfl⟩

theorem xor_nat (x y : Nat) (hx : x < 18446744073709551616) (hy : y < 18446744073709551616) : bits .xor .u64 (x : Int) (y : Int) = ((x ^^^ y : Nat) : Int) := by
  have l : x ^^^ y < 2 ^ 64 := Nat.xor_lt_two_pow hx hy
  show IntKind.u64.wrap (((BitVec.ofInt 64 (x : Int)) ^^^ (BitVec.ofInt 64 (y : Int))).toNat : Int) = _
  rw [show BitVec.ofInt 64 (x : Int) = BitVec.ofNat 64 x from BitVec.ofInt_natCast .., show BitVec.ofInt 64 (y : Int) = BitVec.ofNat 64 y from BitVec.ofInt_natCast ..]
  rw [BitVec.toNat_xor, BitVec.toNat_ofNat, BitVec.toNat_ofNat, Nat.mod_eq_of_lt (by simpa using hx), Nat.mod_eq_of_lt (by simpa using hy)]
  show ((x ^^^ y : Nat) : Int) % 18446744073709551616 = _
  omega
theorem and_nat (x y : Nat) (hx : x < 18446744073709551616) (hy : y < 18446744073709551616) : bits .and .u64 (x : Int) (y : Int) = ((x &&& y : Nat) : Int) := by
  have l : x &&& y ≤ x := Nat.and_le_left
  show IntKind.u64.wrap (((BitVec.ofInt 64 (x : Int)) &&& (BitVec.ofInt 64 (y : Int))).toNat : Int) = _
  rw [show BitVec.ofInt 64 (x : Int) = BitVec.ofNat 64 x from BitVec.ofInt_natCast .., show BitVec.ofInt 64 (y : Int) = BitVec.ofNat 64 y from BitVec.ofInt_natCast ..]
  rw [BitVec.toNat_and, BitVec.toNat_ofNat, BitVec.toNat_ofNat, Nat.mod_eq_of_lt (by simpa using hx), Nat.mod_eq_of_lt (by simpa using hy)]
  show ((x &&& y : Nat) : Int) % 18446744073709551616 = _
  omega

def Rnd (w : World) (p X : Nat) : Prop := w.cell? ⟨p, 0, none⟩ = some (.int .u64 X) ∧ w.frozen? ⟨p, 0, none⟩ = false

theorem rnd_set {w0 w : World} {p X x1 : Nat} (hK : RK w0 w p) (h : Rnd w p X) (v : Int) (hv : v = (x1 : Nat)) (n : Nat) :
    RK w0 ((w.drewN n).setCell ⟨p, 0, none⟩ (.int .u64 v)) p ∧ Rnd ((w.drewN n).setCell ⟨p, 0, none⟩ (.int .u64 v)) p x1 := by
  subst hv
  exact ⟨(hK.trans (RK.drewN _ _ _)).trans (RK.setCell _ _ _ _), World.cell?_setCell_same' _ _ _ (by show (w.cell? _).isSome = true; rw [h.1]; rfl), by rw [World.frozen?_setCell]; exact h.2⟩
theorem wp_gen {P : Program} {c : Code} {Q : Exit → Act → World → Prop} {a : Act} {W : World} (R : World → Prop) (hW : R W) (h : ∀ w1, R w1 → Code.wp P c Q a w1) : Code.wp P c Q a W := h W hW

theorem next_any (p X : Nat) (w : World) (hC : Rnd w p X) (hX : X < 18446744073709551616) :
    Calls Tryz.prog 78 #[.pointer (some ⟨p, 0, none⟩)] w fun e w' =>
      e = .returned (.int .u64 (xorNextN X)) ∧ RK w w' p ∧ Rnd w' p (xorNextN X) := by
  have hc := hC.1
  have hf := hC.2
  have HC : Hid (Rnd w p X) := hC
  clear hC
  go_enter Tryz.func78, Tryz.ntmps78
  go_wp2
  obtain ⟨x1, e1⟩ : ∃ x1 : Nat, x1 = X ^^^ (X * 8192 % 18446744073709551616) := ⟨_, rfl⟩
  obtain ⟨x2, e2⟩ : ∃ x2 : Nat, x2 = x1 ^^^ (x1 / 128) := ⟨_, rfl⟩
  obtain ⟨x3, e3⟩ : ∃ x3 : Nat, x3 = x2 ^^^ (x2 * 131072 % 18446744073709551616) := ⟨_, rfl⟩
  have l1 : x1 < 18446744073709551616 := by rw [e1]; exact Nat.xor_lt_two_pow (n := 64) hX (by omega)
  have l2 : x2 < 18446744073709551616 := by rw [e2]; exact Nat.xor_lt_two_pow (n := 64) l1 (by omega)
  have E : Hid (xorNextN X = x3) := by show _ = _; rw [e3, e2, e1]; rfl
  have V1 : Hid (bits .xor .u64 (X : Int) (IntKind.u64.wrap ((X : Int) * 8192)) = (x1 : Nat)) := by
    show _ = _
    rw [show IntKind.u64.wrap ((X : Int) * 8192) = ((X * 8192 % 18446744073709551616 : Nat) : Int) by show ((X : Int) * 8192) % 18446744073709551616 = _; omega, xor_nat _ _ hX (by omega), e1]
  have V2 : Hid (bits .xor .u64 (x1 : Int) ((x1 : Int) / 128) = (x2 : Nat)) := by
    show _ = _
    rw [show (x1 : Int) / 128 = ((x1 / 128 : Nat) : Int) by omega, xor_nat _ _ l1 (by omega), e2]
  have V3 : Hid (bits .xor .u64 (x2 : Int) (IntKind.u64.wrap ((x2 : Int) * 131072)) = (x3 : Nat)) := by
    show _ = _
    rw [show IntKind.u64.wrap ((x2 : Int) * 131072) = ((x2 * 131072 % 18446744073709551616 : Nat) : Int) by show ((x2 : Int) * 131072) % 18446744073709551616 = _; omega, xor_nat _ _ l2 (by omega), e3]
  clear e1 e2 e3
  go_region
  all_goals go_upto_region 2 with fail
  refine wp_gen (fun w1 => RK w w1 p ∧ Rnd w1 p x1) (rnd_set (RK.refl _ _) HC.out _ V1.out 1) ?_
  rintro w1 ⟨hK1, hR1⟩
  have hc := hR1.1
  have hf := hR1.2
  go_region
  all_goals go_upto_region 3 with fail
  refine wp_gen (fun w2 => RK w w2 p ∧ Rnd w2 p x2) (rnd_set hK1 hR1 _ V2.out 1) ?_
  rintro w2 ⟨hK2, hR2⟩
  have hc := hR2.1
  have hf := hR2.2
  go_region
  all_goals go_upto_region 4 with fail
  refine wp_gen (fun w3 => RK w w3 p ∧ Rnd w3 p x3) (rnd_set hK2 hR2 _ V3.out 1) ?_
  rintro w3 ⟨hK3, hR3⟩
  have hc := hR3.1
  have hf := hR3.2
  go_wp2
  go_ret
  rw [E.out]
  exact ⟨rfl, hK3, hR3⟩

set_option maxRecDepth 10000 in
theorem pow_nat : ∀ n : Nat, n < 64 → IntKind.u64.wrap ((2 : Int) ^ min (bitsLen n) 64) = ((1 <<< bitsLen n : Nat) : Int) := by decide
theorem pow_any (n : Nat) (w : World) (hn : n < 64) :
    Calls Tryz.prog 77 #[.int .i64 n] w fun e w' => e = .returned (.int .u64 ((1 <<< bitsLen n : Nat) : Int)) ∧ w' = w := by
  go_enter Tryz.func77, Tryz.ntmps77
  go_wp2_with (go_at_call 41; refine (len_any n _ (by omega) (by omega)).mono ?_; rintro e w' ⟨rfl, rfl⟩)
  go_ret
  exact ⟨congrArg Ending.returned (congrArg (Value.int IntKind.u64) (pow_nat n hn)), rfl⟩
end Go.Proofs.YtkkkldglceiiiaaGreat
