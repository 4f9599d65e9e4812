/- What ring.Hash and the document's Hash answer: one and the same number. -/
import Derived.Test.YtkkkldglceiiiaaGreatRing
namespace Go.Proofs.YtkkkldglceiiiaaGreat
set_option linter.unusedVariables false
open Go.ChangeShapes Go.WideShapes Go.ChangeAt Go.RowKit

def hstep (h : Int) (c : UInt8) : Int :=
  bits .xor .u64 (IntKind.u64.wrap (bits .xor .u64 h (IntKind.u64.wrap c.toNat) * 18397679294719823053)) (IntKind.u64.wrap (bits .xor .u64 h (IntKind.u64.wrap c.toNat) * 18397679294719823053) / 4294967296)
def hashTo (n : Nat) (l : List UInt8) : Int := l.foldl hstep (bits .xor .u64 11400714819323198485 n)
def hend (h : Int) : Int :=
  bits .xor .u64 (IntKind.u64.wrap (h * 14181476777654086739)) (IntKind.u64.wrap (h * 14181476777654086739) / 536870912)
def hashN (s : ByteArray) : Int := hend (hashTo s.size s.data.toList)

theorem hashTo_snoc (s : ByteArray) (k : Nat) (h : k < s.size) : hashTo s.size (s.data.toList.take (k + 1)) = hstep (hashTo s.size (s.data.toList.take k)) s[k] := by
  rw [take_snoc s k h, hashTo, List.foldl_append]; rfl

theorem hashTo_all (s : ByteArray) (k : Nat) (h : ¬ k < s.size) : hend (hashTo s.size (s.data.toList.take k)) = hashN s := by
  rw [List.take_of_length_le (by simpa using h)]; rfl

theorem quo_wrap (x d : Int) (hd : 1 ≤ d) : IntKind.u64.wrap ((IntKind.u64.wrap x).tdiv d) = IntKind.u64.wrap x / d := by
  have h0 : 0 ≤ IntKind.u64.wrap x ∧ IntKind.u64.wrap x < 18446744073709551616 := by
    show 0 ≤ x % 18446744073709551616 ∧ x % 18446744073709551616 < 18446744073709551616
    omega
  generalize IntKind.u64.wrap x = y at *
  rw [Int.tdiv_eq_ediv_of_nonneg h0.1]
  show (y / d) % 18446744073709551616 = y / d
  have h1 : 0 ≤ y / d := Int.ediv_nonneg h0.1 (by omega)
  have h2 : y / d ≤ y := Int.ediv_le_self _ h0.1
  omega

theorem hash_any (s : ByteArray) (w : World) (hs : s.size ≤ 300) :
    Calls Tryz.prog 27 #[.string s] w fun e w' => e = .returned (.int .u64 (hashN s)) ∧ w' = w := by
  go_enter Tryz.func27, Tryz.ntmps27
  go_wp2
  go_loop [3, 11] (fun h i => ∃ k : Nat, k ≤ s.size ∧ i = .int .i64 k ∧ h = .int .u64 (hashTo s.size (s.data.toList.take k))) (fun _ i => s.size - (intOf i).toNat)
  case atStart => exact ⟨0, Nat.zero_le _, rfl, rfl⟩
  case round =>
    obtain ⟨k, hk, rfl, rfl⟩ := hrel
    by_cases hlt : k < s.size
    · have H : Hid (hashTo s.size (s.data.toList.take (k + 1)) = hstep (hashTo s.size (s.data.toList.take k)) s[k]) := hashTo_snoc s k hlt
      go_wp2
      go_round
      case rel => exact ⟨k + 1, by omega, by go_num, int_eq H.out.symm⟩
      case measure => simp [intOf]; omega
    · have H : Hid (hend (hashTo s.size (s.data.toList.take k)) = hashN s) := hashTo_all s k hlt
      go_wp2
      go_ret
      exact ⟨ret_i H.out, rfl⟩

end Go.Proofs.YtkkkldglceiiiaaGreat
