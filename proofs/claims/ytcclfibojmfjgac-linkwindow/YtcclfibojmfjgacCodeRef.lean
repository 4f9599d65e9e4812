/- The document's bytes (wigwagref02.Number, Int, Text; wigwaglaw02.write) are the same plain lists. -/
import Derived.Test.YtcclfibojmfjgacCodePut
import Derived.Deep.RegionWith
import Derived.Laws.IdiomStrings
namespace Go.Proofs.Ytcclfibojmfjgac
open Go.ChangeShapes Go.WideShapes Go.ChangeAt Go.RowKit
set_option linter.unusedVariables false

theorem conv_one (W : World) (b : Nat) (x : Int) (c : UInt8) (hx : x = (c.toNat : Int)) (h : W.cell? ⟨b, 0, none⟩ = some (.int .u8 x)) :
    (convert 29 9 (.slice (some ⟨b, 0, none⟩) 1 1)).run Try.prog W = .ok (.string ⟨#[c]⟩) W := by
  subst hx
  exact run_convert_bytes_back (P := Try.prog) W 29 9 5 ⟨b, 0, none⟩ 1 [c] Try.underlying29 Try.underlying5 Try.underlying9 (fun j hj => by
    have hj0 : j = 0 := by simpa using hj
    subst hj0
    simpa [Addr.add] using h)

theorem bcell {W w1 : World} (hb : Below W.heap.size W w1) : (∀ b o, b < W.heap.size → w1.cell? ⟨b, o, none⟩ = W.cell? ⟨b, o, none⟩) ∧ (∀ b o, b < W.heap.size → w1.frozen? ⟨b, o, none⟩ = W.frozen? ⟨b, o, none⟩) :=
  ⟨fun b o h => hb.cell (p := ⟨b, o, none⟩) h, fun b o h => hb.frozen (p := ⟨b, o, none⟩) h⟩

theorem below_a {w w1 : World} {o : Obj} (h : Below (w.alloc o).drew.heap.size (w.alloc o).drew w1) : Below w.heap.size w w1 :=
  ((Below.refl _ _).alloc (Nat.le_refl _) o).drew.trans (h.mono (by show w.heap.size ≤ (w.alloc o).heap.size; simp))
theorem below_b {w w1 : World} (h : Below w.drew.heap.size w.drew w1) (o : Obj) : Below w.heap.size w (w1.alloc o) :=
  ((Below.refl _ _).drew.trans h).alloc (show w.heap.size ≤ w1.heap.size from h.size) o
theorem str_append (a b : List UInt8) : (ByteArray.mk a.toArray) ++ (ByteArray.mk b.toArray) = ⟨(a ++ b).toArray⟩ := by
  apply bytes_inj; simp

theorem ref_small (n : Nat) (w : World) (hn : n < 128) :
    Calls Try.prog 36 #[.int .u64 n] w fun e w' => e = .returned (.string ⟨(numB n).toArray⟩) ∧ Below w.heap.size w w' := by
  have HB : Hid (numB n = [UInt8.ofNat n]) := numB_small n hn
  obtain ⟨c, hc⟩ : ∃ c, c = UInt8.ofNat n := ⟨_, rfl⟩
  have hcv := conv_one (w.alloc (.cells #[.int .u8 (n : Int)] 5)) w.heap.size n c (by rw [hc, ofNat_toNat n (by omega)]) (by simp)
  have HC : Hid (c = UInt8.ofNat n) := hc
  clear hc
  have hni : (n : Int) < 128 := by omega
  go_enter Try.func36, Try.ntmps36
  go_wp2
  go_ret
  exact ⟨ret_s (by rw [HB.out, HC.out]), (Below.refl _ _).alloc (Nat.le_refl _) _⟩

theorem ref_number (n : Nat) (w : World) (hn : n < 18446744073709551616) :
    Calls Try.prog 36 #[.int .u64 n] w fun e w' => e = .returned (.string ⟨(numB n).toArray⟩) ∧ Below w.heap.size w w' := by
  induction n using Nat.strongRecOn generalizing w with
  | _ n ih =>
    by_cases hs : n < 128
    · exact ref_small n w hs
    · have ih' : Hid (∀ w, Calls Try.prog 36 #[.int .u64 (IntKind.u64.wrap ((n : Int) / 128))] w fun e w' => e = .returned (.string ⟨(numB (n / 128)).toArray⟩) ∧ Below w.heap.size w w') := fun w => by
        have e : IntKind.u64.wrap ((n : Int) / 128) = ((n / 128 : Nat) : Int) := by rw [IntWalk.u64_in _ ⟨by omega, by omega⟩]; omega
        rw [e]; exact ih (n / 128) (by omega) w (by omega)
      clear ih
      obtain ⟨c, hc⟩ : ∃ c, c = UInt8.ofNat (n % 128 + 128) := ⟨_, rfl⟩
      have HB : Hid (numB n = c :: numB (n / 128)) := (by rw [hc]; exact numB_big n hs : numB n = c :: numB (n / 128))
      have hcv : ∀ (W : World) (b : Nat), W.cell? ⟨b, 0, none⟩ = some (.int .u8 (IntKind.u8.wrap (IntKind.u64.wrap (128 + (n : Int).tmod 128)))) → (convert 29 9 (.slice (some ⟨b, 0, none⟩) 1 1)).run Try.prog W = .ok (.string ⟨#[c]⟩) W :=
        fun W b h => conv_one W b _ c (by rw [hc, ofNat_toNat _ (by omega), IntKind.wrap_u64, IntKind.wrap_u8, Int.tmod_eq_emod_of_nonneg (by omega)]; omega) h
      clear hc
      have h10 := numB_len10 (n / 128) (by omega)
      have hni : ¬ (n : Int) < 128 := by omega
      have hn1 : (n : Int) ≤ 18446744073709551615 := by omega
      go_enter Try.func36, Try.ntmps36
      go_wp2_with fail
      go_region_with (first | (go_at_call 36; refine (ih'.out _).mono ?_; rintro e w1 ⟨rfl, hb1⟩; obtain ⟨hc1, hf1⟩ := bcell hb1))
      all_goals (try go_wp2)
      all_goals go_ret
      all_goals exact ⟨ret_s (by rw [HB.out]; exact str_append [c] (numB (n / 128))), by first | exact below_a hb1 | exact below_b hb1 _⟩

theorem ref_number_int (x : Int) (n : Nat) (w : World) (hx : x = n) (hn : n < 18446744073709551616) :
    Calls Try.prog 36 #[.int .u64 x] w fun e w' => e = .returned (.string ⟨(numB n).toArray⟩) ∧ Below w.heap.size w w' := by
  subst hx; exact ref_number n w hn

theorem ref_int (n : Int) (w : World) (h0 : -9223372036854775808 ≤ n) (h1 : n ≤ 9223372036854775807) :
    Calls Try.prog 24 #[.int .i64 n] w fun e w' => e = .returned (.string ⟨(numB (zig n)).toArray⟩) ∧ Below w.heap.size w w' := by
  have hz := zig_lt n h0 h1
  by_cases hn : 0 ≤ n
  · have hzz : Hid (zig n = (2 * n).toNat) := (by rw [zig, if_pos hn] : zig n = (2 * n).toNat)
    go_enter Try.func24, Try.ntmps24
    go_wp2_with fail
    refine (ref_number_int _ (zig n) _ ?_ hz).mono ?_
    · rw [hzz.out]; omega
    rintro e w' ⟨rfl, hb⟩
    go_wp2
    go_ret
    exact ⟨rfl, hb⟩
  · have hzz : Hid (zig n = (-2 * n - 1).toNat) := (by rw [zig, if_neg hn] : zig n = (-2 * n - 1).toNat)
    go_enter Try.func24, Try.ntmps24
    go_wp2_with fail
    refine (ref_number_int _ (zig n) _ ?_ hz).mono ?_
    · rw [hzz.out]; omega
    rintro e w' ⟨rfl, hb⟩
    go_wp2
    go_ret
    exact ⟨rfl, hb⟩

theorem ref_text (s : ByteArray) (w : World) (hs : s.size ≤ 1000000) :
    Calls Try.prog 25 #[.string s] w fun e w' => e = .returned (.string ⟨(numB s.size ++ s.data.toList).toArray⟩) ∧ Below w.heap.size w w' := by
  have h10 := numB_len10 s.size (by omega)
  go_enter Try.func25, Try.ntmps25
  go_wp2_with fail
  refine (ref_number_int _ s.size _ rfl (by omega)).mono ?_
  rintro e w' ⟨rfl, hb⟩
  go_wp2
  all_goals go_ret
  all_goals exact ⟨ret_s (str_append (numB s.size) s.data.toList), hb⟩

end Go.Proofs.Ytcclfibojmfjgac
