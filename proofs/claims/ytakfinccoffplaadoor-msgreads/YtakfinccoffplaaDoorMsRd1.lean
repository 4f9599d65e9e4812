/- A reader told by what is left of its bytes and its code. -/
import Derived.Test.YtakfinccoffplaaDoorMsMath
import Derived.Test.YtakfinccoffplaaDoorCodeRT
import Derived.Test.YtakfinccoffplaaDoorCodeBelow
namespace Go.Proofs.YtakfinccoffplaaDoor
open Go.ChangeShapes Go.WideShapes Go.ChangeAt Go.RowKit
set_option linter.unusedVariables false

/-- The reader at q: st is what is left, and its code. -/
def RdL (w : World) (q : Nat) (s : ByteArray) (st : PS) : Prop := ∃ at', at' ≤ s.size ∧ Rd w q s at' st.2 ∧ s.data.toList.drop at' = st.1
section
variable {w w' : World} {q : Nat} {s : ByteArray} {st : PS}
theorem RdL.lt (h : RdL w q s st) : q < w.heap.size := by obtain ⟨a, _, h, _⟩ := h; exact h.lt
theorem RdL.at (h : RdL w q s st) (hb : w'.heap[q]? = w.heap[q]?) : RdL w' q s st := by
  obtain ⟨a, h1, h2, h3⟩ := h
  exact ⟨a, h1, hb.trans h2, h3⟩
theorem rdl_new (w : World) (s : ByteArray) : RdL (w.alloc (.cells #[.string s, .int .i64 0, .int .i64 0] 104)) w.heap.size s (s.data.toList, 0) :=
  ⟨0, Nat.zero_le _, rd_new w s, rfl⟩

theorem RdL.int (h : RdL w q s st) (hs : s.size ≤ 1000000) :
    Calls Tryd.prog 27 #[.pointer (some ⟨q, 0, none⟩)] w fun e w' => e = .returned (.int .i64 (pI st).1) ∧ RdL w' q s (pI st).2 ∧ Same w w' q := by
  obtain ⟨a, h1, h2, h3⟩ := h
  obtain ⟨l, c⟩ := st
  simp only at h2 h3
  by_cases hc : c = 0
  · subst hc
    have ht := rd_taken 0 0 l
    have hll : l.length = s.size - a := by rw [← h3]; simp
    refine (rint_any q s a (rdNum 0 0 l).1 (rdNum 0 0 l).2.1 (rdNum 0 0 l).2.2 w h2 h1 hs (by rw [h3])).mono ?_
    rintro e w' ⟨rfl, hR, hS⟩
    have e : pI (l, 0) = (zag (rdNum 0 0 l).1, (l.drop (rdNum 0 0 l).2.1, (rdNum 0 0 l).2.2)) := by unfold pI; rw [if_pos rfl]
    rw [e]
    exact ⟨rfl, ⟨_, by omega, hR, by rw [← h3, List.drop_drop]⟩, hS⟩
  · rw [pI_stuck (l, c) hc]
    refine (rint_stuck q s a c w h2 hc).mono ?_
    rintro e w' ⟨rfl, hw'⟩
    subst w'
    exact ⟨rfl, ⟨a, h1, h2, h3⟩, Same.refl _ _⟩

theorem rtext_stuck (q : Nat) (s : ByteArray) (at' c : Nat) (most : Int) (w : World) (h : Rd w q s at' c) (hc : c ≠ 0) :
    Calls Tryd.prog 28 #[.pointer (some ⟨q, 0, none⟩), .int .i64 most] w fun e w' => e = .returned (.string ByteArray.empty) ∧ w' = w := by
  have h1 := h.at
  have h2 := h.code
  have hb : ((c : Int) != 0) = true := bne_iff_ne.2 (by omega)
  go_enter Tryd.func28, Tryd.ntmps28
  go_wp2_with fail
  refine (rnumber_stuck q s at' c _ h hc).mono ?_
  rintro e w1 ⟨rfl, hw1⟩
  subst w1
  go_wp2
  go_ret
  exact ⟨rfl, rfl⟩

theorem ext_list (s : ByteArray) (p n : Nat) : s.extract p (p + n) = ⟨((s.data.toList.drop p).take n).toArray⟩ := by
  apply ByteArray.ext
  rw [ByteArray.data_extract, ← Array.toList_inj]
  simp [Array.toList_extract, List.extract]

theorem RdL.text (h : RdL w q s st) (hs : s.size ≤ 1000000) (most : Nat) (hm : most ≤ 1000000) :
    Calls Tryd.prog 28 #[.pointer (some ⟨q, 0, none⟩), .int .i64 (most : Int)] w fun e w' => e = .returned (.string (pT most st).1) ∧ RdL w' q s (pT most st).2 ∧ Same w w' q := by
  obtain ⟨a, h1, h2, h3⟩ := h
  obtain ⟨l, c⟩ := st
  simp only at h2 h3
  have hmx : max (most : Int) 0 = (most : Int) := by omega
  by_cases hc : c = 0
  · subst hc
    have ht := rd_taken 0 0 l
    have hll : l.length = s.size - a := by rw [← h3]; simp
    unfold pT
    rw [if_pos rfl]
    simp only
    by_cases c1 : (rdNum 0 0 l).2.2 = 0
    · rw [if_pos c1]
      have hr : rdNum 0 0 (s.data.toList.drop a) = ((rdNum 0 0 l).1, (rdNum 0 0 l).2.1, 0) := by rw [h3]; exact Prod.ext rfl (Prod.ext rfl c1)
      by_cases c2 : (rdNum 0 0 l).1 ≤ most
      · rw [if_pos c2]
        by_cases c3 : (rdNum 0 0 l).1 ≤ (l.drop (rdNum 0 0 l).2.1).length
        · rw [if_pos c3]
          have c3' := c3
          rw [List.length_drop] at c3'
          refine (rtext_ok q s a _ _ _ rfl most w h2 h1 hs hr (by omega) (by rw [hmx]; omega) (by omega)).mono ?_
          rintro e w' ⟨rfl, hR, hS⟩
          refine ⟨?_, ⟨_, by omega, hR, ?_⟩, hS⟩
          · rw [ext_list, ← h3, List.drop_drop]
          · rw [← h3, List.drop_drop, List.drop_drop, Nat.add_assoc]
        · rw [if_neg c3]
          have c3' := c3
          rw [List.length_drop] at c3'
          refine (rtext_end q s a _ _ _ rfl most w h2 h1 hs hr (by omega) (by rw [hmx]; omega) (by omega) (by omega)).mono ?_
          rintro e w' ⟨rfl, hR, hS⟩
          exact ⟨rfl, ⟨_, by omega, hR, by rw [← h3, List.drop_drop]⟩, hS⟩
      · rw [if_neg c2]
        refine (rtext_arg q s a _ _ most w h2 h1 hs hr (by omega) (by rw [hmx]; omega)).mono ?_
        rintro e w' ⟨rfl, hR, hS⟩
        exact ⟨rfl, ⟨_, h1, hR, h3⟩, hS⟩
    · rw [if_neg c1]
      refine (rtext_bad q s a (rdNum 0 0 l).1 (rdNum 0 0 l).2.1 (rdNum 0 0 l).2.2 most w h2 h1 hs (by rw [h3]) c1).mono ?_
      rintro e w' ⟨rfl, hR, hS⟩
      exact ⟨rfl, ⟨_, by omega, hR, by rw [← h3, List.drop_drop]⟩, hS⟩
  · rw [pT_stuck most (l, c) hc]
    refine (rtext_stuck q s a c most w h2 hc).mono ?_
    rintro e w' ⟨rfl, hw'⟩
    subst w'
    exact ⟨rfl, ⟨a, h1, h2, h3⟩, Same.refl _ _⟩

theorem RdL.below5 (h : RdL w q s st) (hs : s.size ≤ 1000000) :
    Calls Tryd.prog 49 #[.pointer (some ⟨q, 0, none⟩), .int .i64 5] w fun e w' => e = .returned (.int .i64 (pB 5 st).1) ∧ RdL w' q s (pB 5 st).2 ∧ Same w w' q := by
  obtain ⟨a, h1, h2, h3⟩ := h
  obtain ⟨l, c⟩ := st
  simp only at h2 h3
  by_cases hc : c = 0
  · subst hc
    have ht := rd_taken 0 0 l
    have hll : l.length = s.size - a := by rw [← h3]; simp
    unfold pB
    rw [if_pos rfl]
    simp only
    by_cases c1 : (rdNum 0 0 l).2.2 = 0
    · rw [if_pos c1]
      have hr : rdNum 0 0 (s.data.toList.drop a) = ((rdNum 0 0 l).1, (rdNum 0 0 l).2.1, 0) := by rw [h3]; exact Prod.ext rfl (Prod.ext rfl c1)
      by_cases c2 : 0 ≤ zag (rdNum 0 0 l).1 ∧ zag (rdNum 0 0 l).1 < 5
      · rw [if_pos c2]
        refine (rbelow_ok q s a _ _ _ 5 w h2 h1 hs hr rfl c2.1 c2.2).mono ?_
        rintro e w' ⟨rfl, hR, hS⟩
        exact ⟨rfl, ⟨_, by omega, hR, by rw [← h3, List.drop_drop]⟩, hS⟩
      · rw [if_neg c2]
        refine (rbelow_arg q s a _ _ _ 5 w h2 h1 hs hr rfl (by omega)).mono ?_
        rintro e w' ⟨rfl, hR, hS⟩
        exact ⟨rfl, ⟨_, h1, hR, h3⟩, hS⟩
    · rw [if_neg c1]
      refine (rbelow_bad q s a (rdNum 0 0 l).1 (rdNum 0 0 l).2.1 (rdNum 0 0 l).2.2 5 w h2 h1 hs (by rw [h3]) c1).mono ?_
      rintro e w' ⟨rfl, hR, hS⟩
      exact ⟨rfl, ⟨_, by omega, hR, by rw [← h3, List.drop_drop]⟩, hS⟩
  · have : pB 5 (l, c) = (0, (l, c)) := by unfold pB; rw [if_neg hc]
    rw [this]
    refine (rbelow_stuck q s a c 5 w h2 hc).mono ?_
    rintro e w' ⟨rfl, hw'⟩
    subst w'
    exact ⟨rfl, ⟨a, h1, h2, h3⟩, Same.refl _ _⟩

theorem RdL.done0 (h : RdL w q s st) (hd : dn st = 0) :
    Calls Tryd.prog 31 #[.pointer (some ⟨q, 0, none⟩)] w fun e w' => e = .returned .nilIface ∧ Adds w w' q := by
  obtain ⟨a, h1, h2, h3⟩ := h
  obtain ⟨l, c⟩ := st
  simp only at h2 h3
  unfold dn at hd
  simp only at hd
  split at hd
  · split at hd
    · rename_i e1 e2
      subst e1
      refine (done_nil q s a w h2 ?_).mono ?_
      · have : (s.data.toList.drop a).length = 0 := by rw [h3, e2]; rfl
        simp at this; omega
      · rintro e w' ⟨rfl, hR, hA⟩
        exact ⟨rfl, hA⟩
    · omega
  · rename_i e1; exact absurd hd e1
theorem RdL.doneE (h : RdL w q s st) (hd : dn st ≠ 0) :
    Calls Tryd.prog 31 #[.pointer (some ⟨q, 0, none⟩)] w fun e w' => ∃ g, e = .returned (.iface 124 (.pointer (some ⟨g, 0, none⟩))) ∧ IsFault w' (.iface 124 (.pointer (some ⟨g, 0, none⟩))) (dn st) ∧ w.heap.size ≤ g ∧ Adds w w' q := by
  obtain ⟨a, h1, h2, h3⟩ := h
  obtain ⟨l, c⟩ := st
  simp only at h2 h3
  unfold dn at hd ⊢
  simp only at hd ⊢
  by_cases hc : c = 0
  · rw [if_pos hc] at hd ⊢
    subst hc
    by_cases hl : l = []
    · rw [if_pos hl] at hd; exact absurd rfl hd
    · rw [if_neg hl]
      refine (done_left q s a w h2 ?_).mono ?_
      · rcases Nat.lt_or_ge a s.size with q | q
        · exact q
        · exfalso; apply hl; rw [← h3]; exact List.drop_eq_nil_of_le (by simpa using q)
      · rintro e w' ⟨g, rfl, hF, hg, hR, hA⟩
        exact ⟨g, rfl, hF, hg, hA⟩
  · rw [if_neg hc]
    refine (done_stuck q s a c w h2 hc).mono ?_
    rintro e w' ⟨g, rfl, hF, hg, hR, hA⟩
    exact ⟨g, rfl, hF, hg, hA⟩
end
end Go.Proofs.YtakfinccoffplaaDoor
