/- Unlike groups have unlike names. No program's walk in sight. -/
import Derived.Test.YtiafamfnbpbfiaaGreatDoorGrName
import Derived.Test.YtiafamfnbpbfiaaGreatDoorValMath
namespace Go.Proofs.YtiafamfnbpbfiaaGreatDoor
open Go.RowKit
set_option linter.unusedVariables false

theorem split_first {c : UInt8} : ∀ {p q r s : List UInt8}, c ∉ p → c ∉ q → p ++ c :: r = q ++ c :: s → p = q ∧ r = s
  | [], [], r, s, _, _, h => by simpa using h
  | [], b :: q, r, s, _, hq, h => by
    simp at h
    exact absurd h.1 (fun e => hq (by simp [e]))
  | a :: p, [], r, s, hp, _, h => by
    simp at h
    exact absurd h.1 (fun e => hp (by simp [e]))
  | a :: p, b :: q, r, s, hp, hq, h => by
    simp at h
    obtain ⟨rfl, h⟩ := h
    have := split_first (fun hh => hp (by simp [hh])) (fun hh => hq (by simp [hh])) h
    exact ⟨by rw [this.1], this.2⟩
def valD (l : List UInt8) : Nat := l.foldl (fun acc c => 10 * acc + (c.toNat - 48)) 0
theorem dig_toNat (u : Nat) (h : u < 10) : (UInt8.ofNat (48 + u)).toNat = 48 + u := by
  rw [UInt8.toNat_ofNat']; omega
theorem valD_dec : ∀ (k u : Nat), u ≤ k → valD (Lib.decDigits u) = u := by
  intro k
  induction k with
  | zero => intro u h; obtain rfl : u = 0 := by omega
            rw [Lib.decDigits_one (by omega)]; decide
  | succ k ih =>
    intro u h
    by_cases h1 : u < 10
    · rw [Lib.decDigits_one h1]
      simp only [valD, List.foldl_cons, List.foldl_nil, dig_toNat u h1]; omega
    · rw [Lib.decDigits, dif_neg h1]
      have := ih (u / 10) (by omega)
      unfold valD at *
      rw [List.foldl_append, this]
      simp only [List.foldl_cons, List.foldl_nil, dig_toNat (u % 10) (by omega)]
      omega
theorem dec_inj {u v : Nat} (h : Lib.decDigits u = Lib.decDigits v) : u = v := by
  rw [← valD_dec u u (Nat.le_refl _), h, valD_dec v v (Nat.le_refl _)]
theorem dec_no46 : ∀ (k u : Nat), u ≤ k → (46 : UInt8) ∉ Lib.decDigits u := by
  intro k
  induction k with
  | zero => intro u h; obtain rfl : u = 0 := by omega
            rw [Lib.decDigits_one (by omega)]; decide
  | succ k ih =>
    intro u h hm
    have hne : ∀ d, d < 10 → (46 : UInt8) ≠ UInt8.ofNat (48 + d) := fun d hd e => by
      have := congrArg UInt8.toNat e
      rw [dig_toNat d hd] at this
      have h46 : (46 : UInt8).toNat = 46 := rfl
      omega
    by_cases h1 : u < 10
    · rw [Lib.decDigits_one h1] at hm
      exact hne u h1 (by simpa using hm)
    · rw [Lib.decDigits, dif_neg h1, List.mem_append] at hm
      rcases hm with hm | hm
      · exact ih (u / 10) (by omega) hm
      · exact hne (u % 10) (by omega) (by simpa using hm)
theorem dec_list (n : Nat) : (dec n).data.toList = Lib.decDigits n := by
  unfold dec Lib.itoa
  rw [if_neg (by omega), Int.toNat_natCast]
theorem gname_list (a : ByteArray) (l i : Nat) : (gname a ⟨l, i⟩).data.toList = a.data.toList ++ 46 :: (Lib.decDigits l ++ 46 :: Lib.decDigits i) := by
  unfold gname
  simp only [ByteArray.data_append, Array.toList_append, dec_list]
  simp
theorem name_no46 {a : ByteArray} (h : NameOk a) : (46 : UInt8) ∉ a.data.toList := by
  intro hm
  obtain ⟨i, hi, e⟩ := List.mem_iff_getElem.1 hm
  have hi' : i < a.size := by simpa using hi
  have hc := h.ch i hi'
  have e' : a[i] = 46 := by rw [← e]; rfl
  rw [e'] at hc
  rcases hc with hc | ⟨_, hc⟩
  · exact absurd hc (by unfold letterP; decide)
  · exact absurd hc (by unfold digitP; decide)
theorem gname_inj {a b : ByteArray} {l i m j : Nat} (ha : NameOk a) (hb : NameOk b) (h : gname a ⟨l, i⟩ = gname b ⟨m, j⟩) : a = b ∧ l = m ∧ i = j := by
  have h1 : (gname a ⟨l, i⟩).data.toList = (gname b ⟨m, j⟩).data.toList := by rw [h]
  rw [gname_list, gname_list] at h1
  obtain ⟨e1, e2⟩ := split_first (name_no46 ha) (name_no46 hb) h1
  obtain ⟨e3, e4⟩ := split_first (dec_no46 l l (Nat.le_refl _)) (dec_no46 m m (Nat.le_refl _)) e2
  refine ⟨?_, dec_inj e3, dec_inj e4⟩
  cases a; cases b
  simp at e1
  simp [e1]
end Go.Proofs.YtiafamfnbpbfiaaGreatDoor
