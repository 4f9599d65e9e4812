/- wigwaglaw06.FilterParses, walked. -/
import Derived.Test.YtcckoncgfmbhiaaDoorRefPs
import Derived.Test.YtcckoncgfmbhiaaDoorOfFlt
import Derived.Test.YtcckoncgfmbhiaaDoorFilDoor
import Derived.Test.YtcckoncgfmbhiaaDoorCut
namespace Go.Proofs.YtcckoncgfmbhiaaDoor
open Go.ChangeShapes Go.WideShapes Go.ChangeAt Go.RowKit
set_option linter.unusedVariables false

theorem plin_nil (w : World) (c : Nat) : PlIn w (.slice none 0 0) [] := ⟨none, 0, rfl, fun h => by simp at h⟩
/-- What the two readers answer of one text. -/
def TwoP (s : ByteArray) : Prop :=
  ∃ (ps : List Pl) (cd pl : Int), ps.length ≤ 1000 ∧
    (∀ W, Env W → Calls Tryd.prog 8 #[.string s] W fun e w' => ∃ v er, e = .returned (.tuple #[v, er]) ∧ PlIn w' v ps ∧ ((er = .nilIface ∧ cd = 0) ∨ (¬ cd = 0 ∧ ∃ N, er = .iface 45 (.pointer (some ⟨N, 0, none⟩)) ∧ FaultAt w' N pl cd)) ∧ Below W.heap.size W w') ∧
    (∀ W, Calls Tryd.prog 9 #[.string s] W fun e w' => ∃ v, e = .returned (.tuple #[v, .int .i64 cd, .int .i64 pl]) ∧ PlIn w' v ps ∧ Below W.heap.size W w')
theorem two_p (s : ByteArray) (hs : s.size ≤ 1000) : TwoP s := by
  have hm : s.size ≤ maxLen := by unfold maxLen; omega
  by_cases hl : 300 < s.size
  · refine ⟨[], 1, 0, by simp, fun W E => ?_, fun W => ?_⟩
    · refine (parse_any s W E hm).mono ?_
      rintro e w' ⟨hA, hb⟩
      unfold ParsAns at hA
      rw [if_pos hl] at hA
      obtain ⟨N, rfl, hF⟩ := hA
      exact ⟨_, _, rfl, plin_nil _ 0, Or.inr ⟨by omega, N, rfl, hF⟩, hb⟩
    · refine (rparse_any s W hm).mono ?_
      rintro e w' ⟨hA, hb⟩
      unfold RParsAns at hA
      rw [if_pos hl] at hA
      exact ⟨_, hA, plin_nil _ 0, hb⟩
  · cases hp : pars s.data.toList with
    | fail b r =>
      refine ⟨[], 2, ((s.size - r.length : Nat) : Int), by simp, fun W E => ?_, fun W => ?_⟩
      · refine (parse_any s W E hm).mono ?_
        rintro e w' ⟨hA, hb⟩
        obtain ⟨N, rfl, hF⟩ := hA.fail hl hp
        exact ⟨_, _, rfl, plin_nil _ 0, Or.inr ⟨by omega, N, rfl, hF⟩, hb⟩
      · refine (rparse_any s W hm).mono ?_
        rintro e w' ⟨hA, hb⟩
        unfold RParsAns at hA
        rw [if_neg hl, hp] at hA
        exact ⟨_, hA, plin_nil _ 0, hb⟩
    | ok ps r =>
      have hn : ps.length ≤ 1000 := by
        have h1 : ∀ n acc l qs r, rFil n acc l = .ok qs r → qs.length ≤ acc.length + n := by
          intro n
          induction n with
          | zero => intro acc l qs r h; unfold rFil at h; cases h
          | succ n ih =>
            intro acc l qs r h
            unfold rFil at h
            split at h
            · cases h
            · split at h
              · cases h; simp
              · cases h
              · have := ih _ _ _ _ h; simp at this; omega
        have h2 := h1 _ _ _ _ _ (show rFil (s.data.toList.length + 1) [] s.data.toList = .ok ps r from hp)
        simp at h2; omega
      refine ⟨ps, 0, 0, hn, fun W E => ?_, fun W => ?_⟩
      · refine (parse_any s W E hm).mono ?_
        rintro e w' ⟨hA, hb⟩
        obtain ⟨v, rfl, hrow⟩ := hA.ok hl hp
        exact ⟨_, _, rfl, PlIn.ofOwn hrow, Or.inl ⟨rfl, rfl⟩, hb⟩
      · refine (rparse_any s W hm).mono ?_
        rintro e w' ⟨hA, hb⟩
        unfold RParsAns at hA
        rw [if_neg hl, hp] at hA
        obtain ⟨v, rfl, hrow⟩ := hA
        exact ⟨_, rfl, PlIn.ofOwn hrow, hb⟩

set_option maxRecDepth 100000 in
set_option maxHeartbeats 4000000 in
theorem parses_walk (a0 : ByteArray) (w : World) (hE : ErrType w) (hV : Env w) (w0 : a0.size ≤ maxLen) :
    Calls Tryd.prog 3 #[.string a0] w fun e w' => e = .returned (.bool true) ∧ Below w.heap.size w w' := by
  have HE : Hid (Env w ∧ ErrType w) := ⟨hV, hE⟩
  have hcs := cut_size a0 400
  have HC : Hid _ := cut_any a0 400 w w0
  clear hV hE
  generalize cut a0 400 = s at *
  obtain ⟨ps, cd, pl, hps, T1, T2⟩ := two_p s (by omega)
  have HT1 : Hid _ := T1
  have HT2 : Hid _ := T2
  clear T1 T2
  go_enter Tryd.func3, Tryd.ntmps3
  go_wp2_with fail
  refine Calls.mono HC.out ?_
  rintro e w' ⟨rfl, hw'⟩
  subst w'
  go_wp2_with fail
  refine Calls.mono (HT1.out _ HE.out.1) ?_
  rintro e W1 ⟨v, er, rfl, hP1, her, b1⟩
  have HP1 : Hid (PlIn W1 v ps) := hP1
  have HB1 : Hid (Below w.heap.size w W1) := b1
  clear hP1 b1
  go_wp2_with fail
  refine Calls.mono (HT2.out _) ?_
  rintro e W2 ⟨v2, rfl, hP2, b2⟩
  have HP2 : Hid (PlIn W2 v ps ∧ PlIn W2 v2 ps) := ⟨HP1.out.below b2, hP2⟩
  have HB2 : Hid (Below w.heap.size w W2) := HB1.out.trans (b2.mono HB1.out.size)
  have HER : Hid ((er = .nilIface ∧ cd = 0) ∨ (¬ cd = 0 ∧ ∃ N, er = .iface 45 (.pointer (some ⟨N, 0, none⟩)) ∧ FaultAt W2 N pl cd)) := by
    rcases her with h | ⟨h0, N, h1, h2⟩
    · exact Or.inl h
    · exact Or.inr ⟨h0, N, h1, h2.below b2⟩
  clear hP2 b2 her HP1 HB1
  go_wp2_with fail
  refine Calls.mono (awake6_any _ (HE.out.1.below HB2.out HE.out.1.lt) (HE.out.2.below HE.out.2.lt HB2.out)) ?_
  rintro e W3 ⟨rfl, b3⟩
  have HP3 : Hid (PlIn W3 v ps ∧ PlIn W3 v2 ps) := ⟨HP2.out.1.below b3, HP2.out.2.below b3⟩
  have HB3 : Hid (Below w.heap.size w W3) := HB2.out.trans (b3.mono HB2.out.size)
  have HE3 : Hid ((er = .nilIface ∧ cd = 0) ∨ (¬ cd = 0 ∧ ∃ N, er = .iface 45 (.pointer (some ⟨N, 0, none⟩)) ∧ FaultAt W3 N pl cd)) := by
    rcases HER.out with h | ⟨h0, N, h1, h2⟩
    · exact Or.inl h
    · exact Or.inr ⟨h0, N, h1, h2.below b3⟩
  clear b3 HP2 HB2 HER
  go_wp2_with fail
  refine Calls.mono (told_any v ps _ HP3.out.1 hps) ?_
  rintro e W4 ⟨v4, rfl, hrow4, b4⟩
  have HP4 : Hid (PlIn W4 v4 ps ∧ PlIn W4 v2 ps) := ⟨PlIn.ofOwn hrow4, HP3.out.2.below b4⟩
  have HB4 : Hid (Below w.heap.size w W4) := HB3.out.trans (b4.mono HB3.out.size)
  have HE4 : Hid ((er = .nilIface ∧ cd = 0) ∨ (¬ cd = 0 ∧ ∃ N, er = .iface 45 (.pointer (some ⟨N, 0, none⟩)) ∧ FaultAt W4 N pl cd)) := by
    rcases HE3.out with h | ⟨h0, N, h1, h2⟩
    · exact Or.inl h
    · exact Or.inr ⟨h0, N, h1, h2.below b4⟩
  clear b4 hrow4 HP3 HB3 HE3
  go_wp2_with fail
  refine Calls.mono (same_yes v4 v2 ps _ HP4.out.1 HP4.out.2 hps) ?_
  rintro e W5 ⟨rfl, b5⟩
  have HB5 : Hid (Below w.heap.size w W5) := HB4.out.trans (b5.mono HB4.out.size)
  have HE5 : Hid ((er = .nilIface ∧ cd = 0) ∨ (¬ cd = 0 ∧ ∃ N, er = .iface 45 (.pointer (some ⟨N, 0, none⟩)) ∧ FaultAt W5 N pl cd)) := by
    rcases HE4.out with h | ⟨h0, N, h1, h2⟩
    · exact Or.inl h
    · exact Or.inr ⟨h0, N, h1, h2.below b5⟩
  clear b5 HP4 HB4 HE4
  rcases HE5.out with ⟨rfl, rfl⟩ | ⟨h0, N, rfl, hF⟩
  · go_wp2_with fail
    refine Calls.mono (of_nil _) ?_
    rintro e w' ⟨rfl, hw'⟩
    subst w'
    go_wp2
    go_ret
    exact ⟨rfl, HB5.out⟩
  · have HF : Hid (FaultAt W5 N pl cd) := hF
    have hb0 : (cd == 0) = false := by simpa using h0
    have hbb : (cd == cd) = true := by simp
    clear hF
    go_wp2_with fail
    refine Calls.mono (of_fault N pl cd _ (HE.out.2.below HE.out.2.lt HB5.out) HF.out) ?_
    rintro e W6 ⟨rfl, b6⟩
    have HB6 : Hid (Below w.heap.size w W6) := HB5.out.trans (b6.mono HB5.out.size)
    have HF6 : Hid (FaultAt W6 N pl cd) := HF.out.below b6
    clear b6
    go_wp2_with fail
    refine Calls.mono (at_fl N pl cd _ (HE.out.2.below HE.out.2.lt HB6.out) HF6.out) ?_
    rintro e W7 ⟨rfl, b7⟩
    have HB7 : Hid (Below w.heap.size w W7) := HB6.out.trans (b7.mono HB6.out.size)
    have hpp : (pl == pl) = true := by simp
    clear b7
    go_wp2
    go_ret
    exact ⟨rfl, HB7.out⟩
end Go.Proofs.YtcckoncgfmbhiaaDoor
