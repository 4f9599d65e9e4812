/- slices.BinarySearch of texts that rise. -/
import Derived.Test.YtffdknjocmfmfaaRows
import Derived.Test.YtffdknjocmfmfaaAid
import Derived.Test.YtffdknjocmfmfaaLinMath
import Derived.WalkKit
import Derived.ProofKit
import Derived.OpenShut
import Derived.WalkLawsBesides
import Derived.Outline
import Derived.Below
namespace Go.Proofs.Ytffdknjocmfmfaa
open Go.ChangeShapes Go.WideShapes Go.ChangeAt Go.RowKit
set_option linter.unusedVariables false

theorem cnan_s (x : ByteArray) (w : World) : Calls Try.prog 39 #[.string x] w fun e w' => e = .returned (.bool false) ∧ w' = w := by
  go_enter Try.func39, Try.ntmps39
  go_wp2
  go_ret
  exact ⟨by simp, rfl⟩
theorem snan_s (x : ByteArray) (w : World) : Calls Try.prog 36 #[.string x] w fun e w' => e = .returned (.bool false) ∧ w' = w := by
  go_enter Try.func36, Try.ntmps36
  go_wp2
  go_ret
  exact ⟨by simp, rfl⟩
theorem less_s (x y : ByteArray) (w : World) : Calls Try.prog 35 #[.string x, .string y] w fun e w' => e = .returned (.bool (ltS x y)) ∧ w' = w := by
  go_enter Try.func35, Try.ntmps35
  go_wp2_with (go_at_call 39; refine (cnan_s _ _).mono ?_; rintro e w' ⟨rfl, rfl⟩)
  go_ret
  exact ⟨rfl, rfl⟩

/-- The texts lie where the slice shows. -/
def StrIn (w : World) (a : Option Addr) (len : Nat) (L : List ByteArray) : Prop := L.length = len ∧ (len = 0 ∨ ∃ b o, a = some ⟨b, o, none⟩ ∧ b < w.heap.size ∧ ∀ j, j < len → w.cell? ⟨b, o + j, none⟩ = some (.string (L.getD j ByteArray.empty)))

set_option maxHeartbeats 2000000 in
theorem bs_any (a : Option Addr) (len c : Nat) (L : List ByteArray) (x : ByteArray) (w : World) (h : StrIn w a len L) (hL : Asc ltS L) (hlen : len ≤ 100000) :
    Calls Try.prog 26 #[.slice a len c, .string x] w fun e w' => e = .returned (.tuple #[.int .i64 (lb ltS L x), .bool (hasS L x)]) ∧ w' = w := by
  obtain ⟨k, hk⟩ : ∃ k, k = lb ltS L x := ⟨_, rfl⟩
  have hkl : k ≤ len := by rw [hk, ← h.1]; exact lb_le _ _
  have h1 : ∀ t, t < k → ltS (L.getD t ByteArray.empty) x = true := fun t ht => lb_less _ L x t (by rw [← hk]; exact ht)
  have h2 : ∀ t, k ≤ t → t < len → ltS (L.getD t ByteArray.empty) x = false := fun t ht hl => lb_not _ linS L hL x t (by rw [← hk]; exact ht) (by rw [h.1]; exact hl)
  have h3 := lb_hit ByteArray.empty linS L hL x
  rw [← hk, h.1] at h3
  rw [← hk]
  have HX : Hid (StrIn w a len L) := h
  have H1 : Hid _ := h1
  have H2 : Hid _ := h2
  have H3 : Hid _ := h3
  clear h h1 h2 h3 hk
  go_enter Try.func26, Try.ntmps26
  go_wp2
  go_loop [7, 8] (fun x y => ∃ lo hi : Nat, x = .int .i64 lo ∧ y = .int .i64 hi ∧ lo ≤ k ∧ k ≤ hi ∧ hi ≤ len) (fun x y => (intOf y).toNat - (intOf x).toNat)
  case atStart => exact ⟨0, len, rfl, rfl, Nat.zero_le _, hkl, Nat.le_refl _⟩
  case round =>
    obtain ⟨lo, hi, rfl, rfl, hlo, hhi, hhl⟩ := hrel
    by_cases hlt : lo < hi
    · obtain ⟨b, o, ha, hb, hcells⟩ := HX.out.2.resolve_left (by omega)
      subst ha
      obtain ⟨m, hm⟩ : ∃ m, m = (lo + hi) / 2 := ⟨_, rfl⟩
      have hm1 : lo ≤ m := by omega
      have hm2 : m < hi := by omega
      have hc := hcells m (by omega)
      have hmi : ((lo : Int) + (hi : Int)) / 2 = (m : Int) := by omega
      have hm0 : (0 : Int) ≤ (m : Int) := Int.natCast_nonneg _
      have hml : (m : Int) < (len : Int) := by omega
      clear hm hcells
      obtain ⟨s, hs⟩ : ∃ s, s = L.getD m ByteArray.empty := ⟨_, rfl⟩
      rw [← hs] at hc
      by_cases hmk : m < k
      · have hq := H1.out m hmk
        rw [← hs] at hq
        have HQ : Hid _ := hq
        clear hs hq
        go_wp2_with (go_at_call 35; refine (less_s _ _ _).mono ?_; rintro e w' ⟨rfl, rfl⟩; rw [HQ.out])
        go_round
        case rel => exact ⟨m + 1, hi, by go_num, rfl, by omega, by omega, by omega⟩
        case measure => simp [intOf]; omega
      · have hq := H2.out m (by omega) (by omega)
        rw [← hs] at hq
        have HQ : Hid _ := hq
        clear hs hq
        go_wp2_with (go_at_call 35; refine (less_s _ _ _).mono ?_; rintro e w' ⟨rfl, rfl⟩; rw [HQ.out])
        go_round
        case rel => exact ⟨lo, m, rfl, rfl, by omega, by omega, by omega⟩
        case measure => simp [intOf]; omega
    · obtain rfl : lo = k := by omega
      obtain rfl : hi = lo := by omega
      by_cases hkn : hi < len
      · obtain ⟨b, o, ha, hb, hcells⟩ := HX.out.2.resolve_left (by omega)
        subst ha
        have hc := hcells hi hkn
        have hm0 : (0 : Int) ≤ (hi : Int) := Int.natCast_nonneg _
        have hml : (hi : Int) < (len : Int) := by omega
        obtain ⟨s, hs⟩ : ∃ s, s = L.getD hi ByteArray.empty := ⟨_, rfl⟩
        have h3 := H3.out
        rw [← hs] at hc h3
        have H4 : Hid (s = x ↔ x ∈ L) := ⟨fun e => h3.1 ⟨hkn, e⟩, fun e => (h3.2 e).2⟩
        clear hs h3 hcells
        by_cases he : s = x
        · subst he
          have H5 : Hid _ := H4.out.1 rfl
          go_wp2_with (go_at_call 36; refine (snan_s _ _).mono ?_; rintro e w' ⟨rfl, rfl⟩)
          go_ret2
          exact ⟨by rw [(hasS_iff L s).2 H5.out]; simp, rfl⟩
        · have he' : ¬ s.toList = x.toList := fun q => he (bytes_inj q)
          have he2 : (s.toList == x.toList) = false := by simpa using he'
          have H5 : Hid (¬ x ∈ L) := fun q => he (H4.out.2 q)
          go_wp2_with (go_at_call 36; refine (snan_s _ _).mono ?_; rintro e w' ⟨rfl, rfl⟩)
          go_ret2
          exact ⟨by rw [hasS_no H5.out]; simp, rfl⟩
      · have hml : ¬ (hi : Int) < (len : Int) := by omega
        have H5 : Hid (¬ x ∈ L) := fun q => hkn (H3.out.2 q).1
        go_wp2_with (go_at_call 36; refine (snan_s _ _).mono ?_; rintro e w' ⟨rfl, rfl⟩)
        go_ret2
        exact ⟨by rw [hasS_no H5.out]; simp, rfl⟩
end Go.Proofs.Ytffdknjocmfmfaa
