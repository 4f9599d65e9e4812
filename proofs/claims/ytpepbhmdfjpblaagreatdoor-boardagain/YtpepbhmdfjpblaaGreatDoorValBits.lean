/- value.wrong, attrInForm, valueOf, predOf, takes: one attribute, one value, one predicate. -/
import Derived.Test.YtpepbhmdfjpblaaGreatDoorValName
namespace Go.Proofs.YtpepbhmdfjpblaaGreatDoor
open Go.ChangeShapes Go.WideShapes Go.ChangeAt Go.RowKit
set_option linter.unusedVariables false

theorem wrong_any (n : Int) (w : World) :
    Calls Tryz.prog 46 #[.int .i64 n] w fun e w' => e = .returned (.iface 170 (.pointer (some ⟨w.heap.size, 0, none⟩))) ∧
      w' = w.alloc (.cells #[.string ⟨#[118, 97, 108, 117, 101]⟩, .int .i64 n, .iface 36 (.int .i64 3)] 172) := by
  go_enter Tryz.func46, Tryz.ntmps46
  go_wp2
  go_ret
  exact ⟨rfl, rfl⟩

theorem below1 (w : World) (o : Obj) : Below w.heap.size w (w.alloc o) := (Below.refl _ _).alloc (Nat.le_refl _) _
theorem below2 (w : World) (o o' : Obj) : Below w.heap.size w ((w.alloc o).alloc o') := (below1 w o).alloc (by simp) _

theorem attr_k1 {nm : ByteArray} {mn mx : Int} (h : NameOk nm) : AttrOk ⟨nm, 1, mn, mx⟩ ↔ (-2147483648 ≤ mn ∧ mn ≤ mx ∧ mx ≤ 2147483648) := by simp [AttrOk, h]
theorem attr_k2 {nm : ByteArray} {mn mx : Int} (h : NameOk nm) : AttrOk ⟨nm, 2, mn, mx⟩ ↔ (mn = 0 ∧ mx = 0) := by simp [AttrOk, h]
theorem attr_k0 {nm : ByteArray} {k mn mx : Int} (h1 : k ≠ 1) (h2 : k ≠ 2) : AttrOk ⟨nm, k, mn, mx⟩ ↔ False := by simp [AttrOk, h1, h2]
theorem val_k1 {nm s : ByteArray} {mn mx n : Int} : ValOk ⟨nm, 1, mn, mx⟩ ⟨n, s⟩ ↔ (mn ≤ n ∧ n ≤ mx ∧ s = ByteArray.empty) := by simp [ValOk]
theorem val_k2 {nm s : ByteArray} {mn mx n : Int} : ValOk ⟨nm, 2, mn, mx⟩ ⟨n, s⟩ ↔ (StrOk s ∧ n = 0) := by simp [ValOk]
theorem val_k0 {nm s : ByteArray} {k mn mx n : Int} (h1 : k ≠ 1) (h2 : k ≠ 2) : ValOk ⟨nm, k, mn, mx⟩ ⟨n, s⟩ ↔ False := by simp [ValOk, h1, h2]

set_option maxHeartbeats 1000000 in
theorem attr_any (nm : ByteArray) (kd mn mx : Int) (w : World) (hs : nm.size ≤ maxLen) :
    Calls Tryz.prog 47 #[.agg #[.string nm, .int .i64 kd, .int .i64 mn, .int .i64 mx]] w fun e w' => Says e (AttrOk ⟨nm, kd, mn, mx⟩) ∧ Below w.heap.size w w' := by
  by_cases hn : NameOk nm
  · have HN : Hid (NameOk nm) := hn
    clear hn
    by_cases k1 : kd = 1
    · subst k1
      by_cases c1 : -2147483648 ≤ mn <;> by_cases c2 : mn ≤ mx <;> by_cases c3 : mx ≤ 2147483648
      all_goals
        go_enter Tryz.func47, Tryz.ntmps47
        go_wp2_with (go_at_call 68; refine (name_any _ _ hs).mono ?_; rintro e w' ⟨⟨b, rfl, hb⟩, rfl⟩; have hb' : b = true := hb.mpr HN.out; subst hb'; clear hb)
        all_goals first
          | (exfalso; omega)
          | (go_ret
             refine ⟨⟨_, rfl, ?_⟩, below1 _ _⟩
             rw [attr_k1 HN.out]
             simp <;> omega)
          | skip
    · by_cases k2 : kd = 2
      · subst k2
        by_cases c1 : mn = 0
        · subst c1
          by_cases c2 : mx = 0
          · subst c2
            go_enter Tryz.func47, Tryz.ntmps47
            go_wp2_with (go_at_call 68; refine (name_any _ _ hs).mono ?_; rintro e w' ⟨⟨b, rfl, hb⟩, rfl⟩; have hb' : b = true := hb.mpr HN.out; subst hb'; clear hb)
            go_ret
            exact ⟨⟨_, rfl, by rw [attr_k2 HN.out]; simp⟩, below1 _ _⟩
          · go_enter Tryz.func47, Tryz.ntmps47
            go_wp2_with (go_at_call 68; refine (name_any _ _ hs).mono ?_; rintro e w' ⟨⟨b, rfl, hb⟩, rfl⟩; have hb' : b = true := hb.mpr HN.out; subst hb'; clear hb)
            go_ret
            exact ⟨⟨_, rfl, by rw [attr_k2 HN.out]; simp⟩, below1 _ _⟩
        · go_enter Tryz.func47, Tryz.ntmps47
          go_wp2_with (go_at_call 68; refine (name_any _ _ hs).mono ?_; rintro e w' ⟨⟨b, rfl, hb⟩, rfl⟩; have hb' : b = true := hb.mpr HN.out; subst hb'; clear hb)
          go_ret
          exact ⟨⟨_, rfl, by rw [attr_k2 HN.out]; simp <;> omega⟩, below1 _ _⟩
      · go_enter Tryz.func47, Tryz.ntmps47
        go_wp2_with (go_at_call 68; refine (name_any _ _ hs).mono ?_; rintro e w' ⟨⟨b, rfl, hb⟩, rfl⟩; have hb' : b = true := hb.mpr HN.out; subst hb'; clear hb)
        go_ret
        exact ⟨⟨_, rfl, by rw [attr_k0 k1 k2]; simp⟩, below1 _ _⟩
  · have HN : Hid (¬ NameOk nm) := hn
    clear hn
    go_enter Tryz.func47, Tryz.ntmps47
    go_wp2_with (go_at_call 68; refine (name_any _ _ hs).mono ?_; rintro e w' ⟨⟨b, rfl, hb⟩, rfl⟩; have hb' : b = false := by { cases b with | false => rfl | true => exact absurd (hb.mp rfl) HN.out }; subst hb'; clear hb)
    go_ret
    exact ⟨Says.no (fun h => HN.out h.1), below1 _ _⟩

theorem empty_list (s : ByteArray) : s.toList = [] ↔ s = ByteArray.empty := by
  constructor
  · intro h
    have : s.data.toList = [] := by simpa [ByteArray.toList_eq] using h
    cases s with | mk d => simp at this; subst this; rfl
  · rintro rfl; simp [ByteArray.toList_eq]

set_option maxHeartbeats 2000000 in
theorem valueOf_any (nm : ByteArray) (kd mn mx n : Int) (s : ByteArray) (w : World) (hs : s.size ≤ maxLen) :
    Calls Tryz.prog 67 #[.agg #[.string nm, .int .i64 kd, .int .i64 mn, .int .i64 mx], .agg #[.int .i64 n, .string s]] w fun e w' => Says e (ValOk ⟨nm, kd, mn, mx⟩ ⟨n, s⟩) ∧ Below w.heap.size w w' := by
  by_cases k1 : kd = 1
  · subst k1
    by_cases c3 : s.toList = []
    · have C3 : Hid (s = ByteArray.empty) := (empty_list s).mp c3
      have c3' : (s.toList == []) = true := by simpa using c3
      by_cases c1 : mn ≤ n <;> by_cases c2 : n ≤ mx
      all_goals
        go_enter Tryz.func67, Tryz.ntmps67
        go_wp2
        go_ret
        refine ⟨⟨_, rfl, ?_⟩, below2 _ _ _⟩
        rw [val_k1, C3.out]
        simp <;> omega
    · have C3 : Hid (¬ s = ByteArray.empty) := fun h => c3 ((empty_list s).mpr h)
      have c3' : (s.toList == []) = false := by simpa using c3
      by_cases c1 : mn ≤ n <;> by_cases c2 : n ≤ mx
      all_goals
        go_enter Tryz.func67, Tryz.ntmps67
        go_wp2
        go_ret
        refine ⟨⟨_, rfl, ?_⟩, below2 _ _ _⟩
        rw [val_k1, eq_false C3.out]
        simp
  · by_cases k2 : kd = 2
    · subst k2
      by_cases hn : StrOk s
      · have HN : Hid (StrOk s) := hn
        clear hn
        by_cases c1 : n = 0
        · subst c1
          go_enter Tryz.func67, Tryz.ntmps67
          go_wp2_with (go_at_call 94; refine (str_any _ _ hs).mono ?_; rintro e w' ⟨⟨b, rfl, hb⟩, rfl⟩; have hb' : b = true := hb.mpr HN.out; subst hb'; clear hb)
          go_ret
          exact ⟨⟨_, rfl, by rw [val_k2, eq_true HN.out]; simp⟩, below2 _ _ _⟩
        · go_enter Tryz.func67, Tryz.ntmps67
          go_wp2_with (go_at_call 94; refine (str_any _ _ hs).mono ?_; rintro e w' ⟨⟨b, rfl, hb⟩, rfl⟩; have hb' : b = true := hb.mpr HN.out; subst hb'; clear hb)
          go_ret
          exact ⟨⟨_, rfl, by rw [val_k2, eq_true HN.out]; simp⟩, below2 _ _ _⟩
      · have HN : Hid (¬ StrOk s) := hn
        clear hn
        go_enter Tryz.func67, Tryz.ntmps67
        go_wp2_with (go_at_call 94; refine (str_any _ _ hs).mono ?_; rintro e w' ⟨⟨b, rfl, hb⟩, rfl⟩; have hb' : b = false := by { cases b with | false => rfl | true => exact absurd (hb.mp rfl) HN.out }; subst hb'; clear hb)
        go_ret
        exact ⟨⟨_, rfl, by rw [val_k2, eq_false HN.out]; simp⟩, below2 _ _ _⟩
    · go_enter Tryz.func67, Tryz.ntmps67
      go_wp2
      go_ret
      exact ⟨⟨_, rfl, by rw [val_k0 k1 k2]; simp⟩, below2 _ _ _⟩
end Go.Proofs.YtpepbhmdfjpblaaGreatDoor
