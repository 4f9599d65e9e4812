/- What a predicate takes has a cell within its range. No program's walk in sight. -/
import Derived.Test.YtkkbhkpeglcodaaGreatDoorDyRise
import Derived.Test.YtkkbhkpeglcodaaGreatDoorDyRange
namespace Go.Proofs.YtkkbhkpeglcodaaGreatDoor
open Go.RowKit
set_option linter.unusedVariables false

theorem tl_prefix {q s : List UInt8} (h : q <+: s) : tl2 q ≤ tl2 s ∧ tl2 s ≤ tl2 (q ++ [255, 255]) := by
  obtain ⟨r, rfl⟩ := h
  match q with
  | [] =>
    refine ⟨by simp [tl2], ?_⟩
    match r with
    | [] => simp [tl2]
    | [a] => have := a.toNat_lt; simp [tl2]; omega
    | a :: b :: _ => have := a.toNat_lt; have := b.toNat_lt; simp [tl2]; omega
  | [a] =>
    match r with
    | [] => simp [tl2]
    | b :: _ => have := b.toNat_lt; simp [tl2]; omega
  | a :: b :: q => simp [tl2]
theorem tnum_prefix {q s : ByteArray} (h : q.data.toList <+: s.data.toList) : tnum q ≤ tnum s ∧ tnum s ≤ tnum (q ++ ⟨#[255, 255]⟩) := by
  rw [tnum_tl, tnum_tl, tnum_tl]
  have e1 : q.toList = q.data.toList := by simp [ByteArray.toList_eq]
  have e2 : s.toList = s.data.toList := by simp [ByteArray.toList_eq]
  have e3 : (q ++ (⟨#[255, 255]⟩ : ByteArray)).toList = q.data.toList ++ [255, 255] := by simp [ByteArray.toList_eq]
  rw [e1, e2, e3]
  exact tl_prefix h
theorem takes_cells {a : At} {p : Pd} {v : Vl} {n : Nat} (hn : n ≤ 8) (ha : AttrOk a) (hp : PredOk a p) (hv : ValOk a v) (ht : Takes p v) :
    0 ≤ (rangeOf a p n).1 ∧ (rangeOf a p n).1 ≤ cellOf a v n ∧ cellOf a v n ≤ (rangeOf a p n).2 ∧ (rangeOf a p n).2 < ((2 ^ n : Nat) : Int) := by
  rcases hp with ⟨o1, k1, b1, b2, b3, b4⟩ | ⟨o1, k1, b1, b2, b3⟩
  · have hk : -2147483648 ≤ a.mn ∧ a.mx ≤ 2147483648 := by
      rcases ha.2 with h | h
      · exact ⟨h.2.1, h.2.2.2⟩
      · omega
    have ht' : p.lo ≤ v.num ∧ v.num ≤ p.hi := by
      rcases ht with h | h | h
      · exact h.2
      · omega
      · exact absurd o1 h.1
    rw [rangeOf_1 o1]
    have r1 := rise_num (a := a) (v := ⟨p.lo, ByteArray.empty⟩) (u := v) hn k1 hk.1 hk.2 b1 ht'.1 (show v.num ≤ a.mx by omega)
    have r2 := rise_num (a := a) (v := v) (u := ⟨p.hi, ByteArray.empty⟩) hn k1 hk.1 hk.2 (show a.mn ≤ v.num by omega) ht'.2 b3
    exact ⟨r1.1, r1.2, r2.2, cellOf_hi _ _ _ hn⟩
  · have hk : ¬ a.kind = 1 := by omega
    by_cases h2 : p.op = 2
    · have hs : v.str = p.str := by
        rcases ht with h | h | h
        · omega
        · exact h.2
        · exact absurd h2 h.2.1
      rw [rangeOf_2 h2]
      have r1 := rise_text (a := a) (v := ⟨0, p.str⟩) (u := v) hn hk (by rw [hs]; exact Nat.le_refl _)
      have r2 := rise_text (a := a) (v := v) (u := ⟨0, p.str⟩) hn hk (by rw [hs]; exact Nat.le_refl _)
      exact ⟨r1.1, r1.2, r2.2, cellOf_hi _ _ _ hn⟩
    · have h1 : ¬ p.op = 1 := by rcases o1 with h | h <;> omega
      have hs : p.str.data.toList <+: v.str.data.toList := by
        rcases ht with h | h | h
        · exact absurd h.1 h1
        · exact absurd h.1 h2
        · exact h.2.2
      have ht := tnum_prefix hs
      rw [rangeOf_3 h1 h2]
      have r1 := rise_text (a := a) (v := ⟨0, p.str⟩) (u := v) hn hk ht.1
      have r2 := rise_text (a := a) (v := v) (u := ⟨0, p.str ++ ⟨#[255, 255]⟩⟩) hn hk ht.2
      exact ⟨r1.1, r1.2, r2.2, cellOf_hi _ _ _ hn⟩
end Go.Proofs.YtkkbhkpeglcodaaGreatDoor
