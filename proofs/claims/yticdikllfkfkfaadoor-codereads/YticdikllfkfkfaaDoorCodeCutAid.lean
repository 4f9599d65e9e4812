/- Reading bytes of numbers and texts that were cut off: a thing is read whole, or bytes are wanting. -/
import Derived.Test.YticdikllfkfkfaaDoorCodeRT
import Derived.Test.YticdikllfkfkfaaDoorThingsUse
namespace Go.Proofs.YticdikllfkfkfaaDoor
open Go.ChangeShapes Go.WideShapes Go.ChangeAt Go.RowKit
set_option linter.unusedVariables false

theorem rtext_stuck (q : Nat) (s : ByteArray) (at' c : Nat) (most : Int) (w : World) (h : Rd w q s at' c) (hc : c ≠ 0) :
    Calls Tryd.prog 17 #[.pointer (some ⟨q, 0, none⟩), .int .i64 most] w fun e w' => e = .returned (.string ByteArray.empty) ∧ w' = w := by
  have h1 := h.at
  have h2 := h.code
  have hb : ((c : Int) != 0) = true := bne_iff_ne.2 (by omega)
  go_enter Tryd.func17, Tryd.ntmps17
  go_wp2_with fail
  refine (rnumber_stuck q s at' c _ h hc).mono ?_
  rintro e w1 ⟨rfl, hw1⟩
  rw [hw1]
  clear hw1 w1
  go_wp2
  go_ret
  exact ⟨rfl, rfl⟩

/-- How a reader stands that reads the first c bytes of B: at, with no error; or bytes are wanting. -/
def CutAt (w : World) (q : Nat) (S : ByteArray) (c at' : Nat) : Prop := (Rd w q S at' 0 ∧ at' ≤ c) ∨ ∃ a, Rd w q S a 10

theorem drop_cut (B : List UInt8) (c at' : Nat) : (B.take c).drop at' = (B.drop at').take (c - at') := by rw [List.drop_take]

theorem rd_part (n : Nat) (rest : List UInt8) (m : Nat) (hn : n < 18446744073709551616) :
    ((numB n).length ≤ m ∧ rdNum 0 0 ((numB n ++ rest).take m) = (n, (numB n).length, 0)) ∨ (m < (numB n).length ∧ rdNum 0 0 ((numB n ++ rest).take m) = (0, m, 10)) := by
  rcases Nat.lt_or_ge m (numB n).length with h | h
  · right
    refine ⟨h, ?_⟩
    rw [List.take_append_of_le_length (Nat.le_of_lt h)]
    exact rd_cut n 0 0 m (by omega) (by simpa using hn) h
  · left
    refine ⟨h, ?_⟩
    rw [List.take_append, List.take_of_length_le h]
    exact rd_back n _ hn

theorem cut_number (q c at' : Nat) (S : ByteArray) (B rest : List UInt8) (t : Th) (w : World) (h : CutAt w q S c at') (hS : S.data.toList = B.take c) (hSs : S.size = c) (hc : c ≤ 100000)
    (hB : B.drop at' = t.bytes ++ rest) (hk : t.kind = 1) (ht : t.ok) :
    Calls Tryd.prog 13 #[.pointer (some ⟨q, 0, none⟩)] w fun e w' => (∃ x, e = .returned (.int .u64 x)) ∧ CutAt w' q S c (at' + t.bytes.length) ∧ Same w w' q := by
  have hb : t.bytes = numB t.u := by rw [Th.bytes, if_pos hk]
  rw [hb] at hB ⊢
  rcases h with ⟨hR, hat⟩ | ⟨a, hR⟩
  · have e : S.data.toList.drop at' = (numB t.u ++ rest).take (c - at') := by rw [hS, drop_cut, hB]
    rcases rd_part t.u rest (c - at') ht.2.2.1 with ⟨h1, h2⟩ | ⟨h1, h2⟩
    · refine (rnumber_any q S at' t.u (numB t.u).length 0 w hR (by omega) (by omega) (by rw [e]; exact h2)).mono ?_
      rintro e w' ⟨rfl, hR', hS'⟩
      exact ⟨⟨_, rfl⟩, .inl ⟨hR', by omega⟩, hS'⟩
    · refine (rnumber_any q S at' 0 (c - at') 10 w hR (by omega) (by omega) (by rw [e]; exact h2)).mono ?_
      rintro e w' ⟨rfl, hR', hS'⟩
      exact ⟨⟨_, rfl⟩, .inr ⟨_, hR'⟩, hS'⟩
  · refine (rnumber_stuck q S a 10 w hR (by omega)).mono ?_
    rintro e w' ⟨rfl, rfl⟩
    exact ⟨⟨_, rfl⟩, .inr ⟨_, hR⟩, Same.refl _ _⟩

theorem cut_text (q c at' : Nat) (S : ByteArray) (B rest : List UInt8) (t : Th) (w : World) (h : CutAt w q S c at') (hS : S.data.toList = B.take c) (hSs : S.size = c) (hc : c ≤ 100000)
    (hB : B.drop at' = t.bytes ++ rest) (hk : t.kind = 3) (ht : t.ok) (hs : t.s.size ≤ 200) :
    Calls Tryd.prog 17 #[.pointer (some ⟨q, 0, none⟩), .int .i64 200] w fun e w' => (∃ x, e = .returned (.string x)) ∧ CutAt w' q S c (at' + t.bytes.length) ∧ Same w w' q := by
  have hb : t.bytes = numB t.s.size ++ t.s.data.toList := by rw [Th.bytes, if_neg (by omega), if_neg (by omega), if_pos hk]
  rw [hb] at hB ⊢
  have hl : (numB t.s.size ++ t.s.data.toList).length = (numB t.s.size).length + t.s.size := by simp
  rcases h with ⟨hR, hat⟩ | ⟨a, hR⟩
  · have e : S.data.toList.drop at' = (numB t.s.size ++ (t.s.data.toList ++ rest)).take (c - at') := by rw [hS, drop_cut, hB, List.append_assoc]
    rcases rd_part t.s.size (t.s.data.toList ++ rest) (c - at') (by omega) with ⟨h1, h2⟩ | ⟨h1, h2⟩
    · rcases Nat.lt_or_ge c (at' + (numB t.s.size).length + t.s.size) with h3 | h3
      · refine (rtext_end q S at' t.s.size (numB t.s.size).length (at' + (numB t.s.size).length) rfl 200 w hR (by omega) (by omega) (by rw [e]; exact h2) (by omega) (by omega) (by omega) (by omega)).mono ?_
        rintro e w' ⟨rfl, hR', hS'⟩
        exact ⟨⟨_, rfl⟩, .inr ⟨_, hR'⟩, hS'⟩
      · refine (rtext_ok q S at' t.s.size (numB t.s.size).length (at' + (numB t.s.size).length) rfl 200 w hR (by omega) (by omega) (by rw [e]; exact h2) (by omega) (by omega) (by omega)).mono ?_
        rintro e w' ⟨rfl, hR', hS'⟩
        refine ⟨⟨_, rfl⟩, .inl ⟨?_, by omega⟩, hS'⟩
        rw [hl, ← Nat.add_assoc]; exact hR'
    · refine (rtext_bad q S at' 0 (c - at') 10 200 w hR (by omega) (by omega) (by rw [e]; exact h2) (by omega)).mono ?_
      rintro e w' ⟨rfl, hR', hS'⟩
      exact ⟨⟨_, rfl⟩, .inr ⟨_, hR'⟩, hS'⟩
  · refine (rtext_stuck q S a 10 200 w hR (by omega)).mono ?_
    rintro e w' ⟨rfl, rfl⟩
    exact ⟨⟨_, rfl⟩, .inr ⟨_, hR⟩, Same.refl _ _⟩

theorem bytesOf_drop (vs : List Th) (k : Nat) (h : k < vs.length) : (bytesOf vs).drop (bytesOf (vs.take k)).length = (vs.getD k th0).bytes ++ bytesOf (vs.drop (k + 1)) := by
  have e1 : bytesOf vs = bytesOf (vs.take k) ++ bytesOf (vs.drop k) := by
    unfold bytesOf; rw [← List.flatMap_append, List.take_append_drop]
  have e2 : vs.drop k = vs.getD k th0 :: vs.drop (k + 1) := by
    rw [List.drop_eq_getElem_cons h]; simp [List.getD, h]
  rw [e1, List.drop_left, e2]; rfl

/-- The things that are written: numbers and texts. -/
def picked (us : List Th) : List Th := us.filter fun t => t.kind == 1 || t.kind == 3
theorem picked_snoc (us : List Th) (k : Nat) (h : k < us.length) : picked (us.take (k + 1)) = picked (us.take k) ++ (if (us.getD k th0).kind == 1 || (us.getD k th0).kind == 3 then [us.getD k th0] else []) := by
  unfold picked
  rw [take_snocT us k h, List.filter_append]
  congr 1
  simp only [List.filter_cons, List.filter_nil]
end Go.Proofs.YticdikllfkfkfaaDoor
