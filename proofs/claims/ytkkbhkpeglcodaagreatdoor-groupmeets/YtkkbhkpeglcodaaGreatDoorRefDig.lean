/- The document's Digits (wigwagref06): a number as a text. -/
import Derived.Test.YtkkbhkpeglcodaaGreatDoorGrName
import Derived.Laws.BytesArg
import Derived.Laws.IdiomStrings
namespace Go.Proofs.YtkkbhkpeglcodaaGreatDoor
open Go.ChangeShapes Go.WideShapes Go.ChangeAt Go.RowKit
set_option linter.unusedVariables false

/-- The digits so far, behind what is left of the number. -/
def DgAt (U i u : Nat) (s : List UInt8) : Prop := (i = 0 ∨ 0 < u → Lib.decDigits U = Lib.decDigits u ++ s) ∧ (¬ (i = 0 ∨ 0 < u) → Lib.decDigits U = s) ∧ s.length ≤ i
theorem DgAt.step {U i u : Nat} {s : List UInt8} (h : DgAt U i u s) (hu : i = 0 ∨ 0 < u) : DgAt U (i + 1) (u / 10) (UInt8.ofNat (48 + u % 10) :: s) := by
  have e := h.1 hu
  refine ⟨fun h1 => ?_, fun h1 => ?_, by have := h.2.2; simp; omega⟩
  · have h2 : ¬ u < 10 := by omega
    rw [e, Lib.decDigits, dif_neg h2]; simp
  · have h2 : u < 10 := by omega
    rw [e, Lib.decDigits_one h2, Nat.mod_eq_of_lt h2]; rfl
theorem pow10_step (u i : Nat) (h : u < 10 ^ (20 - i)) (hi : i < 20) : u / 10 < 10 ^ (20 - (i + 1)) := by
  have e : 20 - i = 20 - (i + 1) + 1 := by omega
  rw [e, Nat.pow_succ] at h
  exact (Nat.div_lt_iff_lt_mul (by omega)).2 h

set_option maxRecDepth 100000 in
set_option maxHeartbeats 2000000 in
theorem digits_any (n : Int) (w : World) (h : i64 n) :
    Calls Tryz.prog 32 #[.int .i64 n] w fun e w' => e = .returned (.string (dec n)) ∧ Below w.heap.size w w' := by
  obtain ⟨U, hU⟩ : ∃ U : Nat, U = n.natAbs := ⟨_, rfl⟩
  have hU64 : U ≤ 9223372036854775808 := by unfold i64 at h; omega
  have hp20 : U < 10 ^ (20 - 0) := by
    have : (10 : Nat) ^ (20 - 0) = 100000000000000000000 := by decide
    omega
  have HP : Hid (U < 10 ^ (20 - 0)) := hp20
  clear hp20
  have hcv : ∀ (c : UInt8) (W : World) (o : Obj), o = .cells #[.int .u8 (c.toNat : Int)] 5 → (convert 115 9 (.slice (some ⟨W.heap.size, 0, none⟩) 1 1)).run Tryz.prog (W.alloc o) = .ok (.string ⟨#[c]⟩) (W.alloc o) := fun c W o ho => by
    subst ho
    refine run_convert_bytes_back (P := Tryz.prog) _ 115 9 5 ⟨W.heap.size, 0, none⟩ 1 [c] Tryz.underlying115 Tryz.underlying5 Tryz.underlying9 (fun i hi => ?_)
    simp at hi
    subst hi
    simp [Addr.add]
  have HCV : Hid _ := hcv
  clear hcv
  rcases (show n < 0 ∨ ¬ n < 0 by omega) with hneg | hneg
  case inl =>
    have e1 : IntKind.u64.wrap n = 18446744073709551616 - (U : Int) := by
      show n % 18446744073709551616 = _
      unfold i64 at h; omega
    have e2 : IntKind.u64.wrap (-(18446744073709551616 - (U : Int))) = (U : Int) := by
      show (-(18446744073709551616 - (U : Int))) % 18446744073709551616 = _
      omega
    have HD : Hid (dec n = ⟨#[45]⟩ ++ ⟨(Lib.decDigits U).toArray⟩) := by
      show dec n = _
      unfold dec Lib.itoa
      rw [if_pos hneg, hU]
      apply ByteArray.ext; simp
    clear hU
    go_enter Tryz.func32, Tryz.ntmps32
    go_wp2
    clear e1 e2
    go_loopg [3, 4, 5] 20 (fun kx s3 s4 s5 wr => ∃ (i u : Nat) (s : List UInt8), s3 = .int .u64 u ∧ s4 = .string ⟨s.toArray⟩ ∧ s5 = .int .i64 i ∧ i ≤ 20 ∧ u ≤ 9223372036854775808 ∧ s.length ≤ 20 ∧ kx = 20 - i ∧ Hid (DgAt U i u s ∧ u < 10 ^ (20 - i)) ∧ Hid (Below w.heap.size w wr))
    case atStart => exact ⟨0, U, [], rfl, rfl, rfl, by omega, hU64, by simp, rfl, (⟨⟨fun _ => by simp, fun h => absurd (Or.inl rfl) h, by simp⟩, HP.out⟩ : _ ∧ _), (Below.refl _ _ : Below w.heap.size w w)⟩
    case round =>
      obtain ⟨i, u, s, rfl, rfl, rfl, hi, hu, hsl, rfl, HDG, HB⟩ := hrel
      by_cases hgo : i < 20 ∧ (i = 0 ∨ 0 < u)
      · have HN : Hid (DgAt U (i + 1) (u / 10) (UInt8.ofNat (48 + u % 10) :: s) ∧ u / 10 < 10 ^ (20 - (i + 1))) := ⟨HDG.out.1.step hgo.2, pow10_step u i HDG.out.2 hgo.1⟩
        obtain ⟨m, hm⟩ : ∃ m : Nat, m = u % 10 := ⟨_, rfl⟩
        obtain ⟨q, hq⟩ : ∃ q : Nat, q = u / 10 := ⟨_, rfl⟩
        have m1 : (u : Int).tmod 10 = (m : Int) := by rw [Int.tmod_eq_emod_of_nonneg (by omega)]; omega
        have q1 : (u : Int).tdiv 10 = (q : Int) := by rw [Int.tdiv_eq_ediv_of_nonneg (by omega)]; omega
        have hm10 : m < 10 := by omega
        have hqu : q ≤ 9223372036854775808 := by omega
        rw [← hm, ← hq] at HN
        have c1 : (UInt8.ofNat (48 + m)).toNat = 48 + m := by rw [UInt8.toNat_ofNat']; omega
        have HC : Hid _ := HCV.out (UInt8.ofNat (48 + m)) wr _ rfl
        rw [c1] at HC
        clear c1
        generalize UInt8.ofNat (48 + m) = c at HC HN
        have hc := HC.out
        rw [show ((48 + m : Nat) : Int) = 48 + (m : Int) by omega] at hc
        clear hm hq
        rcases (show (i = 0) ∨ (¬ i = 0 ∧ 0 < u) by omega) with hi0 | ⟨hi0, hu0⟩
        all_goals
          have hi20 : i < 20 := hgo.1
          clear hgo
          go_wp2
          go_roundg (20 - (i + 1))
          case measure => omega
          case rel => exact ⟨i + 1, q, c :: s, by go_num, (by congr 1), by go_num, by omega, hqu, by have := HN.out.1.2.2; simp at this ⊢; omega, rfl, HN, (HB.out.trans ((dbel1 _ _).mono HB.out.size) : Below w.heap.size w _)⟩
      · have hend : ¬ (i = 0 ∨ 0 < u) := by
          intro hh
          have h20 : i = 20 := by omega
          have := HDG.out.2
          rw [h20] at this
          simp at this
          omega
        have HS : Hid (Lib.decDigits U = s) := HDG.out.1.2.1 hend
        rcases (show ¬ i < 20 ∨ (i < 20 ∧ ¬ i = 0 ∧ u = 0) by omega) with h2 | ⟨h2, h3, rfl⟩
        all_goals
          clear hgo hend
          go_wp2
          go_ret
          exact ⟨by rw [HD.out, HS.out]; rfl, HB.out⟩
  case inr =>
    have e1 : IntKind.u64.wrap n = (U : Int) := by
      show n % 18446744073709551616 = _
      unfold i64 at h; omega
    have HD : Hid (dec n = ⟨(Lib.decDigits U).toArray⟩) := by
      show dec n = _
      unfold dec Lib.itoa
      rw [if_neg hneg]
      have : n.toNat = U := by omega
      rw [this]
    clear hU
    go_enter Tryz.func32, Tryz.ntmps32
    go_wp2
    clear e1
    go_loopg [3, 4, 5] 20 (fun kx s3 s4 s5 wr => ∃ (i u : Nat) (s : List UInt8), s3 = .int .u64 u ∧ s4 = .string ⟨s.toArray⟩ ∧ s5 = .int .i64 i ∧ i ≤ 20 ∧ u ≤ 9223372036854775808 ∧ s.length ≤ 20 ∧ kx = 20 - i ∧ Hid (DgAt U i u s ∧ u < 10 ^ (20 - i)) ∧ Hid (Below w.heap.size w wr))
    case atStart => exact ⟨0, U, [], rfl, rfl, rfl, by omega, hU64, by simp, rfl, (⟨⟨fun _ => by simp, fun h => absurd (Or.inl rfl) h, by simp⟩, HP.out⟩ : _ ∧ _), (Below.refl _ _ : Below w.heap.size w w)⟩
    case round =>
      obtain ⟨i, u, s, rfl, rfl, rfl, hi, hu, hsl, rfl, HDG, HB⟩ := hrel
      by_cases hgo : i < 20 ∧ (i = 0 ∨ 0 < u)
      · have HN : Hid (DgAt U (i + 1) (u / 10) (UInt8.ofNat (48 + u % 10) :: s) ∧ u / 10 < 10 ^ (20 - (i + 1))) := ⟨HDG.out.1.step hgo.2, pow10_step u i HDG.out.2 hgo.1⟩
        obtain ⟨m, hm⟩ : ∃ m : Nat, m = u % 10 := ⟨_, rfl⟩
        obtain ⟨q, hq⟩ : ∃ q : Nat, q = u / 10 := ⟨_, rfl⟩
        have m1 : (u : Int).tmod 10 = (m : Int) := by rw [Int.tmod_eq_emod_of_nonneg (by omega)]; omega
        have q1 : (u : Int).tdiv 10 = (q : Int) := by rw [Int.tdiv_eq_ediv_of_nonneg (by omega)]; omega
        have hm10 : m < 10 := by omega
        have hqu : q ≤ 9223372036854775808 := by omega
        rw [← hm, ← hq] at HN
        have c1 : (UInt8.ofNat (48 + m)).toNat = 48 + m := by rw [UInt8.toNat_ofNat']; omega
        have HC : Hid _ := HCV.out (UInt8.ofNat (48 + m)) wr _ rfl
        rw [c1] at HC
        clear c1
        generalize UInt8.ofNat (48 + m) = c at HC HN
        have hc := HC.out
        rw [show ((48 + m : Nat) : Int) = 48 + (m : Int) by omega] at hc
        clear hm hq
        rcases (show (i = 0) ∨ (¬ i = 0 ∧ 0 < u) by omega) with hi0 | ⟨hi0, hu0⟩
        all_goals
          have hi20 : i < 20 := hgo.1
          clear hgo
          go_wp2
          go_roundg (20 - (i + 1))
          case measure => omega
          case rel => exact ⟨i + 1, q, c :: s, by go_num, (by congr 1), by go_num, by omega, hqu, by have := HN.out.1.2.2; simp at this ⊢; omega, rfl, HN, (HB.out.trans ((dbel1 _ _).mono HB.out.size) : Below w.heap.size w _)⟩
      · have hend : ¬ (i = 0 ∨ 0 < u) := by
          intro hh
          have h20 : i = 20 := by omega
          have := HDG.out.2
          rw [h20] at this
          simp at this
          omega
        have HS : Hid (Lib.decDigits U = s) := HDG.out.1.2.1 hend
        rcases (show ¬ i < 20 ∨ (i < 20 ∧ ¬ i = 0 ∧ u = 0) by omega) with h2 | ⟨h2, h3, rfl⟩
        all_goals
          clear hgo hend
          go_wp2
          go_ret
          exact ⟨by rw [HD.out, HS.out]; rfl, HB.out⟩
end Go.Proofs.YtkkbhkpeglcodaaGreatDoor
