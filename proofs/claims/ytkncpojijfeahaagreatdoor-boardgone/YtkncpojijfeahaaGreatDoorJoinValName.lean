/- value.Name, value.Str: which texts are names, which are text values. -/
import Derived.Test.YtkncpojijfeahaaGreatDoorRows
import Derived.Test.YtkncpojijfeahaaGreatDoorJoinBkMap
import Derived.WalkKit
import Derived.ProofKit
import Derived.OpenShut
import Derived.WalkLawsBesides
import Derived.OneCell
import Derived.Outline
import Derived.Deep.LoopGhost
import Derived.Deep.QuietTactic
import Derived.BigQuiet
import Derived.RegionTactic
set_option linter.unnecessarySimpa false
namespace Go.Proofs.YtkncpojijfeahaaGreatDoor
open Go.ChangeShapes Go.WideShapes Go.ChangeAt Go.RowKit
set_option linter.unusedVariables false

set_option maxHeartbeats 1000000 in
theorem str_any (s : ByteArray) (w : World) (hs : s.size ≤ maxLen) :
    Calls Tryz.prog 73 #[.string s] w fun e w' => Says e (StrOk s) ∧ w' = w := by
  unfold maxLen at hs
  go_enter Tryz.func73, Tryz.ntmps73
  go_wp2
  go_loop [6] (fun i => ∃ k : Nat, k ≤ s.size ∧ i = .int .i64 k ∧ Hid (∀ j (h : j < s.size), j < k → (32 : Int) ≤ (s[j].toNat : Int) ∧ (s[j].toNat : Int) ≤ 126)) (fun i => s.size - (intOf i).toNat)
  case atStart => exact ⟨0, Nat.zero_le _, rfl, (fun j _ h => absurd h (Nat.not_lt_zero _) : ∀ j (h : j < s.size), j < 0 → (32 : Int) ≤ (s[j].toNat : Int) ∧ (s[j].toNat : Int) ≤ 126)⟩
  case round =>
    obtain ⟨k, hk, rfl, I⟩ := hrel
    by_cases hlt : k < s.size
    · by_cases h1 : (s[k].toNat : Int) < 32
      · go_wp2
        go_ret
        exact ⟨Says.no fun h => by have := h.ch k hlt; omega, rfl⟩
      · by_cases h2 : (126 : Int) < (s[k].toNat : Int)
        · go_wp2
          go_ret
          exact ⟨Says.no fun h => by have := h.ch k hlt; omega, rfl⟩
        · have I2 : Hid (∀ j (h : j < s.size), j < k + 1 → (32 : Int) ≤ (s[j].toNat : Int) ∧ (s[j].toNat : Int) ≤ 126) := fun j hj hjk => by
            by_cases e : j = k
            · subst e; omega
            · exact I.out j hj (by omega)
          go_wp2
          go_round
          case rel => exact ⟨k + 1, by omega, by go_num, I2⟩
          case measure => simp [intOf]; omega
    · go_wp2
      go_ret
      exact ⟨Says.dec ⟨fun h => ⟨fun i hi => I.out i hi (by omega), by omega⟩, fun h => by have := h.le; omega⟩, rfl⟩

set_option maxHeartbeats 2000000 in
theorem name_any (s : ByteArray) (w : World) (hs : s.size ≤ maxLen) :
    Calls Tryz.prog 66 #[.string s] w fun e w' => Says e (NameOk s) ∧ w' = w := by
  unfold maxLen at hs
  by_cases g1 : s.size < 1
  · go_enter Tryz.func66, Tryz.ntmps66
    go_wp2
    go_ret
    exact ⟨Says.no fun h => by have := h.lo; omega, rfl⟩
  by_cases g2 : 12 < s.size
  · go_enter Tryz.func66, Tryz.ntmps66
    go_wp2
    go_ret
    exact ⟨Says.no fun h => by have := h.hi; omega, rfl⟩
  by_cases g3 : s.toList = [105, 110]
  · go_enter Tryz.func66, Tryz.ntmps66
    go_wp2
    go_ret
    exact ⟨Says.no fun h => h.nin g3, rfl⟩
  by_cases g4 : s.toList = [97, 110, 100]
  · go_enter Tryz.func66, Tryz.ntmps66
    go_wp2
    go_ret
    exact ⟨Says.no fun h => h.nand g4, rfl⟩
  have b3 : (s.toList == [105, 110]) = false := by simpa using g3
  have b4 : (s.toList == [97, 110, 100]) = false := by simpa using g4
  have G3 : Hid (s.toList ≠ [105, 110]) := g3
  have G4 : Hid (s.toList ≠ [97, 110, 100]) := g4
  go_enter Tryz.func66, Tryz.ntmps66
  go_wp2
  go_loop [24] (fun i => ∃ k : Nat, k ≤ s.size ∧ i = .int .i64 k ∧ Hid (∀ j (h : j < s.size), j < k → letterP s[j] ∨ (j ≠ 0 ∧ digitP s[j]))) (fun i => s.size - (intOf i).toNat)
  case atStart => exact ⟨0, Nat.zero_le _, rfl, (fun j _ h => absurd h (Nat.not_lt_zero _) : ∀ j (h : j < s.size), j < 0 → letterP s[j] ∨ (j ≠ 0 ∧ digitP s[j]))⟩
  case round =>
    obtain ⟨k, hk, rfl, I⟩ := hrel
    by_cases hlt : k < s.size
    · have I2 : letterP s[k] ∨ (k ≠ 0 ∧ digitP s[k]) → Hid (∀ j (h : j < s.size), j < k + 1 → letterP s[j] ∨ (j ≠ 0 ∧ digitP s[j])) := fun hh j hj hjk => by
        by_cases e : j = k
        · subst e; exact hh
        · exact I.out j hj (by omega)
      have HI2 : Hid _ := I2
      clear I2
      have hch : ∀ _ : NameOk s, letterP s[k] ∨ (k ≠ 0 ∧ digitP s[k]) := fun h => h.ch k hlt
      have HC : Hid _ := hch
      clear hch
      by_cases hL : (97 : Int) ≤ (s[k].toNat : Int) ∧ (s[k].toNat : Int) ≤ 122
      · obtain ⟨h1, h2⟩ := hL
        have h3 : (48 : Int) ≤ (s[k].toNat : Int) := by omega
        have h4 : ¬ (s[k].toNat : Int) ≤ 57 := by omega
        go_wp2
        go_round
        case rel => exact ⟨k + 1, by omega, by go_num, HI2.out (by unfold letterP digitP; omega)⟩
        case measure => simp [intOf]; omega
      · by_cases hD : (48 : Int) ≤ (s[k].toNat : Int) ∧ (s[k].toNat : Int) ≤ 57
        · obtain ⟨h3, h4⟩ := hD
          have h1 : ¬ (97 : Int) ≤ (s[k].toNat : Int) := by omega
          clear hL
          rcases Nat.eq_zero_or_pos k with hk0 | hk0
          · subst hk0
            have HN : Hid (¬ NameOk s) := fun h => by have := HC.out h; unfold letterP digitP at this; omega
            clear HC HI2 I
            go_wp2
            go_ret
            exact ⟨Says.no HN.out, rfl⟩
          · go_wp2
            go_round
            case rel => exact ⟨k + 1, by omega, by go_num, HI2.out (by unfold letterP digitP; omega)⟩
            case measure => simp [intOf]; omega
        · have HN : Hid (¬ NameOk s) := fun h => by have := HC.out h; unfold letterP digitP at this; omega
          clear HC HI2 I
          rcases Nat.lt_or_ge s[k].toNat 97 with h1 | h1
          · have h1' : ¬ (97 : Int) ≤ (s[k].toNat : Int) := by omega
            rcases Nat.lt_or_ge s[k].toNat 48 with h3 | h3
            · have h3' : ¬ (48 : Int) ≤ (s[k].toNat : Int) := by omega
              clear hL hD h1 h3
              go_wp2
              all_goals (go_ret; exact ⟨Says.no HN.out, rfl⟩)
            · have h3' : (48 : Int) ≤ (s[k].toNat : Int) := by omega
              have h4' : ¬ (s[k].toNat : Int) ≤ 57 := by omega
              clear hL hD h1 h3
              go_wp2
              all_goals (go_ret; exact ⟨Says.no HN.out, rfl⟩)
          · have h1' : (97 : Int) ≤ (s[k].toNat : Int) := by omega
            have h2' : ¬ (s[k].toNat : Int) ≤ 122 := by omega
            have h3' : (48 : Int) ≤ (s[k].toNat : Int) := by omega
            have h4' : ¬ (s[k].toNat : Int) ≤ 57 := by omega
            clear hL hD h1
            go_wp2
            all_goals (go_ret; exact ⟨Says.no HN.out, rfl⟩)
    · go_wp2
      go_ret
      exact ⟨Says.yes ⟨by omega, by omega, G3.out, G4.out, fun i hi => I.out i hi (by omega)⟩, rfl⟩
end Go.Proofs.YtkncpojijfeahaaGreatDoor

/- value.wrong, attrInForm, valueOf, predOf, takes: one attribute, one value, one predicate. -/
namespace Go.Proofs.YtkncpojijfeahaaGreatDoor
open Go.ChangeShapes Go.WideShapes Go.ChangeAt Go.RowKit
set_option linter.unusedVariables false

theorem wrong_any (n : Int) (w : World) :
    Calls Tryz.prog 43 #[.int .i64 n] w fun e w' => e = .returned (.iface 129 (.pointer (some ⟨w.heap.size, 0, none⟩))) ∧
      w' = w.alloc (.cells #[.string ⟨#[118, 97, 108, 117, 101]⟩, .int .i64 n, .iface 52 (.int .i64 3)] 131) := by
  go_enter Tryz.func43, Tryz.ntmps43
  go_wp2
  go_ret
  exact ⟨rfl, rfl⟩

theorem below1 (w : World) (o : Obj) : Below w.heap.size w (w.alloc o) := (Below.refl _ _).alloc (Nat.le_refl _) _
theorem below2 (w : World) (o o' : Obj) : Below w.heap.size w ((w.alloc o).alloc o') := (below1 w o).alloc (by simp) _

theorem attr_k1 {nm : ByteArray} {mn mx : Int} (h : NameOk nm) : AttrOk ⟨nm, 1, mn, mx⟩ ↔ (-2147483648 ≤ mn ∧ mn ≤ mx ∧ mx ≤ 2147483648) := by simp [AttrOk, h]
theorem attr_k2 {nm : ByteArray} {mn mx : Int} (h : NameOk nm) : AttrOk ⟨nm, 2, mn, mx⟩ ↔ (mn = 0 ∧ mx = 0) := by simp [AttrOk, h]
theorem attr_k0 {nm : ByteArray} {k mn mx : Int} (h1 : k ≠ 1) (h2 : k ≠ 2) : AttrOk ⟨nm, k, mn, mx⟩ ↔ False := by simp [AttrOk, h1, h2]
theorem val_k1 {nm s : ByteArray} {mn mx n : Int} : ValOk ⟨nm, 1, mn, mx⟩ ⟨n, s⟩ ↔ (mn ≤ n ∧ n ≤ mx ∧ s = ByteArray.empty) := by simp [ValOk]
theorem val_k2 {nm s : ByteArray} {mn mx n : Int} : ValOk ⟨nm, 2, mn, mx⟩ ⟨n, s⟩ ↔ (StrOk s ∧ n = 0) := by simp [ValOk]
theorem val_k0 {nm s : ByteArray} {k mn mx n : Int} (h1 : k ≠ 1) (h2 : k ≠ 2) : ValOk ⟨nm, k, mn, mx⟩ ⟨n, s⟩ ↔ False := by simp [ValOk, h1, h2]

set_option maxHeartbeats 1000000 in
theorem attr_any (nm : ByteArray) (kd mn mx : Int) (w : World) (hs : nm.size ≤ maxLen) :
    Calls Tryz.prog 44 #[.agg #[.string nm, .int .i64 kd, .int .i64 mn, .int .i64 mx]] w fun e w' => Says e (AttrOk ⟨nm, kd, mn, mx⟩) ∧ Below w.heap.size w w' := by
  by_cases hn : NameOk nm
  · have HN : Hid (NameOk nm) := hn
    clear hn
    by_cases k1 : kd = 1
    · subst k1
      by_cases c1 : -2147483648 ≤ mn <;> by_cases c2 : mn ≤ mx <;> by_cases c3 : mx ≤ 2147483648
      all_goals
        go_enter Tryz.func44, Tryz.ntmps44
        go_wp2_with (go_at_call 66; refine (name_any _ _ hs).mono ?_; rintro e w' ⟨⟨b, rfl, hb⟩, rfl⟩; have hb' : b = true := hb.mpr HN.out; subst hb'; clear hb)
        all_goals first
          | (exfalso; omega)
          | (go_ret
             refine ⟨⟨_, rfl, ?_⟩, below1 _ _⟩
             rw [attr_k1 HN.out]
             simp <;> omega)
          | skip
    · by_cases k2 : kd = 2
      · subst k2
        by_cases c1 : mn = 0
        · subst c1
          by_cases c2 : mx = 0
          · subst c2
            go_enter Tryz.func44, Tryz.ntmps44
            go_wp2_with (go_at_call 66; refine (name_any _ _ hs).mono ?_; rintro e w' ⟨⟨b, rfl, hb⟩, rfl⟩; have hb' : b = true := hb.mpr HN.out; subst hb'; clear hb)
            go_ret
            exact ⟨⟨_, rfl, by rw [attr_k2 HN.out]; simp⟩, below1 _ _⟩
          · go_enter Tryz.func44, Tryz.ntmps44
            go_wp2_with (go_at_call 66; refine (name_any _ _ hs).mono ?_; rintro e w' ⟨⟨b, rfl, hb⟩, rfl⟩; have hb' : b = true := hb.mpr HN.out; subst hb'; clear hb)
            go_ret
            exact ⟨⟨_, rfl, by rw [attr_k2 HN.out]; simp⟩, below1 _ _⟩
        · go_enter Tryz.func44, Tryz.ntmps44
          go_wp2_with (go_at_call 66; refine (name_any _ _ hs).mono ?_; rintro e w' ⟨⟨b, rfl, hb⟩, rfl⟩; have hb' : b = true := hb.mpr HN.out; subst hb'; clear hb)
          go_ret
          exact ⟨⟨_, rfl, by rw [attr_k2 HN.out]; simp <;> omega⟩, below1 _ _⟩
      · go_enter Tryz.func44, Tryz.ntmps44
        go_wp2_with (go_at_call 66; refine (name_any _ _ hs).mono ?_; rintro e w' ⟨⟨b, rfl, hb⟩, rfl⟩; have hb' : b = true := hb.mpr HN.out; subst hb'; clear hb)
        go_ret
        exact ⟨⟨_, rfl, by rw [attr_k0 k1 k2]; simp⟩, below1 _ _⟩
  · have HN : Hid (¬ NameOk nm) := hn
    clear hn
    go_enter Tryz.func44, Tryz.ntmps44
    go_wp2_with (go_at_call 66; refine (name_any _ _ hs).mono ?_; rintro e w' ⟨⟨b, rfl, hb⟩, rfl⟩; have hb' : b = false := by { cases b with | false => rfl | true => exact absurd (hb.mp rfl) HN.out }; subst hb'; clear hb)
    go_ret
    exact ⟨Says.no (fun h => HN.out h.1), below1 _ _⟩

theorem empty_list (s : ByteArray) : s.toList = [] ↔ s = ByteArray.empty := by
  constructor
  · intro h
    have : s.data.toList = [] := by simpa [ByteArray.toList_eq] using h
    cases s with | mk d => simp at this; subst this; rfl
  · rintro rfl; simp [ByteArray.toList_eq]

set_option maxHeartbeats 2000000 in
theorem valueOf_any (nm : ByteArray) (kd mn mx n : Int) (s : ByteArray) (w : World) (hs : s.size ≤ maxLen) :
    Calls Tryz.prog 48 #[.agg #[.string nm, .int .i64 kd, .int .i64 mn, .int .i64 mx], .agg #[.int .i64 n, .string s]] w fun e w' => Says e (ValOk ⟨nm, kd, mn, mx⟩ ⟨n, s⟩) ∧ Below w.heap.size w w' := by
  by_cases k1 : kd = 1
  · subst k1
    by_cases c3 : s.toList = []
    · have C3 : Hid (s = ByteArray.empty) := (empty_list s).mp c3
      have c3' : (s.toList == []) = true := by simpa using c3
      by_cases c1 : mn ≤ n <;> by_cases c2 : n ≤ mx
      all_goals
        go_enter Tryz.func48, Tryz.ntmps48
        go_wp2
        go_ret
        refine ⟨⟨_, rfl, ?_⟩, below2 _ _ _⟩
        rw [val_k1, C3.out]
        simp <;> omega
    · have C3 : Hid (¬ s = ByteArray.empty) := fun h => c3 ((empty_list s).mpr h)
      have c3' : (s.toList == []) = false := by simpa using c3
      by_cases c1 : mn ≤ n <;> by_cases c2 : n ≤ mx
      all_goals
        go_enter Tryz.func48, Tryz.ntmps48
        go_wp2
        go_ret
        refine ⟨⟨_, rfl, ?_⟩, below2 _ _ _⟩
        rw [val_k1, eq_false C3.out]
        simp
  · by_cases k2 : kd = 2
    · subst k2
      by_cases hn : StrOk s
      · have HN : Hid (StrOk s) := hn
        clear hn
        by_cases c1 : n = 0
        · subst c1
          go_enter Tryz.func48, Tryz.ntmps48
          go_wp2_with (go_at_call 73; refine (str_any _ _ hs).mono ?_; rintro e w' ⟨⟨b, rfl, hb⟩, rfl⟩; have hb' : b = true := hb.mpr HN.out; subst hb'; clear hb)
          go_ret
          exact ⟨⟨_, rfl, by rw [val_k2, eq_true HN.out]; simp⟩, below2 _ _ _⟩
        · go_enter Tryz.func48, Tryz.ntmps48
          go_wp2_with (go_at_call 73; refine (str_any _ _ hs).mono ?_; rintro e w' ⟨⟨b, rfl, hb⟩, rfl⟩; have hb' : b = true := hb.mpr HN.out; subst hb'; clear hb)
          go_ret
          exact ⟨⟨_, rfl, by rw [val_k2, eq_true HN.out]; simp⟩, below2 _ _ _⟩
      · have HN : Hid (¬ StrOk s) := hn
        clear hn
        go_enter Tryz.func48, Tryz.ntmps48
        go_wp2_with (go_at_call 73; refine (str_any _ _ hs).mono ?_; rintro e w' ⟨⟨b, rfl, hb⟩, rfl⟩; have hb' : b = false := by { cases b with | false => rfl | true => exact absurd (hb.mp rfl) HN.out }; subst hb'; clear hb)
        go_ret
        exact ⟨⟨_, rfl, by rw [val_k2, eq_false HN.out]; simp⟩, below2 _ _ _⟩
    · go_enter Tryz.func48, Tryz.ntmps48
      go_wp2
      go_ret
      exact ⟨⟨_, rfl, by rw [val_k0 k1 k2]; simp⟩, below2 _ _ _⟩
end Go.Proofs.YtkncpojijfeahaaGreatDoor

/- value.predOf, takes, strings.HasPrefix. -/
namespace Go.Proofs.YtkncpojijfeahaaGreatDoor
open Go.ChangeShapes Go.WideShapes Go.ChangeAt Go.RowKit
set_option linter.unusedVariables false

theorem pred_1 {nm k q : ByteArray} {kd mn mx lo hi : Int} : PredOk ⟨nm, kd, mn, mx⟩ ⟨k, 1, lo, hi, q⟩ ↔ (kd = 1 ∧ mn ≤ lo ∧ lo ≤ hi ∧ hi ≤ mx ∧ q = ByteArray.empty) := by simp [PredOk]
theorem pred_2 {nm k q : ByteArray} {kd mn mx lo hi : Int} : PredOk ⟨nm, kd, mn, mx⟩ ⟨k, 2, lo, hi, q⟩ ↔ (kd = 2 ∧ StrOk q ∧ lo = 0 ∧ hi = 0) := by simp [PredOk]
theorem pred_3 {nm k q : ByteArray} {kd mn mx lo hi : Int} : PredOk ⟨nm, kd, mn, mx⟩ ⟨k, 3, lo, hi, q⟩ ↔ (¬ q = ByteArray.empty ∧ kd = 2 ∧ StrOk q ∧ lo = 0 ∧ hi = 0) := by simp [PredOk]
theorem pred_0 {nm k q : ByteArray} {kd mn mx op lo hi : Int} (h1 : op ≠ 1) (h2 : op ≠ 2) (h3 : op ≠ 3) : PredOk ⟨nm, kd, mn, mx⟩ ⟨k, op, lo, hi, q⟩ ↔ False := by simp [PredOk, h1, h2, h3]

set_option maxHeartbeats 4000000 in
theorem predOf_any (nm k q : ByteArray) (kd mn mx op lo hi : Int) (w : World) (hs : q.size ≤ maxLen) :
    Calls Tryz.prog 72 #[.agg #[.string nm, .int .i64 kd, .int .i64 mn, .int .i64 mx], .agg #[.string k, .int .i64 op, .int .i64 lo, .int .i64 hi, .string q]] w
      fun e w' => Says e (PredOk ⟨nm, kd, mn, mx⟩ ⟨k, op, lo, hi, q⟩) ∧ Below w.heap.size w w' := by
  by_cases k1 : op = 1
  · subst k1
    by_cases c0 : kd = 1
    · subst c0
      by_cases c1 : mn ≤ lo
      · by_cases c2 : lo ≤ hi
        · by_cases c3 : hi ≤ mx
          · go_enter Tryz.func72, Tryz.ntmps72
            go_wp2
            go_ret
            refine ⟨⟨_, rfl, ?_⟩, below2 _ _ _⟩
            rw [pred_1, ← empty_list]; simp [c1, c2, c3]
          · go_enter Tryz.func72, Tryz.ntmps72
            go_wp2
            go_ret
            refine ⟨⟨_, rfl, ?_⟩, below2 _ _ _⟩
            rw [pred_1]; simp <;> omega
        · go_enter Tryz.func72, Tryz.ntmps72
          go_wp2
          go_ret
          refine ⟨⟨_, rfl, ?_⟩, below2 _ _ _⟩
          rw [pred_1]; simp <;> omega
      · go_enter Tryz.func72, Tryz.ntmps72
        go_wp2
        go_ret
        refine ⟨⟨_, rfl, ?_⟩, below2 _ _ _⟩
        rw [pred_1]; simp <;> omega
    · go_enter Tryz.func72, Tryz.ntmps72
      go_wp2
      go_ret
      refine ⟨⟨_, rfl, ?_⟩, below2 _ _ _⟩
      rw [pred_1]; simp <;> omega
  · by_cases k2 : op = 2
    · subst k2
      by_cases c0 : kd = 2
      · subst c0
        by_cases hn : StrOk q
        · have HN : Hid (StrOk q) := hn
          clear hn
          by_cases c1 : lo = 0
          · subst c1
            go_enter Tryz.func72, Tryz.ntmps72
            go_wp2_with (go_at_call 73; refine (str_any _ _ hs).mono ?_; rintro e w' ⟨⟨b, rfl, hb⟩, rfl⟩; have hb' : b = true := hb.mpr HN.out; subst hb'; clear hb)
            go_ret
            refine ⟨⟨_, rfl, ?_⟩, below2 _ _ _⟩
            rw [pred_2, eq_true HN.out]; simp
          · go_enter Tryz.func72, Tryz.ntmps72
            go_wp2_with (go_at_call 73; refine (str_any _ _ hs).mono ?_; rintro e w' ⟨⟨b, rfl, hb⟩, rfl⟩; have hb' : b = true := hb.mpr HN.out; subst hb'; clear hb)
            go_ret
            refine ⟨⟨_, rfl, ?_⟩, below2 _ _ _⟩
            rw [pred_2]; simp <;> omega
        · have HN : Hid (¬ StrOk q) := hn
          clear hn
          go_enter Tryz.func72, Tryz.ntmps72
          go_wp2_with (go_at_call 73; refine (str_any _ _ hs).mono ?_; rintro e w' ⟨⟨b, rfl, hb⟩, rfl⟩; have hb' : b = false := by { cases b with | false => rfl | true => exact absurd (hb.mp rfl) HN.out }; subst hb'; clear hb)
          go_ret
          refine ⟨⟨_, rfl, ?_⟩, below2 _ _ _⟩
          rw [pred_2, eq_false HN.out]; simp
      · go_enter Tryz.func72, Tryz.ntmps72
        go_wp2
        go_ret
        refine ⟨⟨_, rfl, ?_⟩, below2 _ _ _⟩
        rw [pred_2]; simp <;> omega
    · by_cases k3 : op = 3
      · subst k3
        by_cases ce : q.toList = []
        · have CE : Hid (q = ByteArray.empty) := (empty_list q).mp ce
          have ce' : (q.toList == []) = true := by simpa using ce
          go_enter Tryz.func72, Tryz.ntmps72
          go_wp2
          go_ret
          refine ⟨⟨_, rfl, ?_⟩, below2 _ _ _⟩
          rw [pred_3, eq_true CE.out]; simp
        · have CE : Hid (¬ q = ByteArray.empty) := fun h => ce ((empty_list q).mpr h)
          have ce' : (q.toList == []) = false := by simpa using ce
          by_cases c0 : kd = 2
          · subst c0
            by_cases hn : StrOk q
            · have HN : Hid (StrOk q) := hn
              clear hn
              by_cases c1 : lo = 0
              · subst c1
                go_enter Tryz.func72, Tryz.ntmps72
                go_wp2_with (go_at_call 73; refine (str_any _ _ hs).mono ?_; rintro e w' ⟨⟨b, rfl, hb⟩, rfl⟩; have hb' : b = true := hb.mpr HN.out; subst hb'; clear hb)
                go_ret
                refine ⟨⟨_, rfl, ?_⟩, below2 _ _ _⟩
                rw [pred_3, eq_true HN.out, eq_false CE.out]; simp
              · go_enter Tryz.func72, Tryz.ntmps72
                go_wp2_with (go_at_call 73; refine (str_any _ _ hs).mono ?_; rintro e w' ⟨⟨b, rfl, hb⟩, rfl⟩; have hb' : b = true := hb.mpr HN.out; subst hb'; clear hb)
                go_ret
                refine ⟨⟨_, rfl, ?_⟩, below2 _ _ _⟩
                rw [pred_3]; simp <;> omega
            · have HN : Hid (¬ StrOk q) := hn
              clear hn
              go_enter Tryz.func72, Tryz.ntmps72
              go_wp2_with (go_at_call 73; refine (str_any _ _ hs).mono ?_; rintro e w' ⟨⟨b, rfl, hb⟩, rfl⟩; have hb' : b = false := by { cases b with | false => rfl | true => exact absurd (hb.mp rfl) HN.out }; subst hb'; clear hb)
              go_ret
              refine ⟨⟨_, rfl, ?_⟩, below2 _ _ _⟩
              rw [pred_3, eq_false HN.out]; simp
          · go_enter Tryz.func72, Tryz.ntmps72
            go_wp2
            go_ret
            refine ⟨⟨_, rfl, ?_⟩, below2 _ _ _⟩
            rw [pred_3]; simp <;> omega
      · go_enter Tryz.func72, Tryz.ntmps72
        go_wp2
        go_ret
        refine ⟨⟨_, rfl, ?_⟩, below2 _ _ _⟩
        rw [pred_0 k1 k2 k3]; simp
end Go.Proofs.YtkncpojijfeahaaGreatDoor

/- value.takes, strings.HasPrefix; value.Find and its closures, slices.IndexFunc, ContainsFunc. -/
namespace Go.Proofs.YtkncpojijfeahaaGreatDoor
open Go.ChangeShapes Go.WideShapes Go.ChangeAt Go.RowKit
set_option linter.unusedVariables false

theorem prefix_any (s q : ByteArray) (w : World) (hs : s.size ≤ maxLen) (hq : q.size ≤ maxLen) :
    Calls Tryz.prog 74 #[.string s, .string q] w fun e w' => Says e (q.data.toList <+: s.data.toList) ∧ w' = w := by
  have h32 : Calls Tryz.prog 96 #[.string s, .string q] w fun e w' => Says e (q.data.toList <+: s.data.toList) ∧ w' = w := by
    unfold maxLen at hs hq
    by_cases h : q.size ≤ s.size
    · go_enter Tryz.func96, Tryz.ntmps96
      go_wp2
      go_ret
      refine ⟨⟨_, rfl, ?_⟩, rfl⟩
      rw [List.prefix_iff_eq_take]
      simp [ByteArray.toList_eq]
      exact ⟨Eq.symm, Eq.symm⟩
    · go_enter Tryz.func96, Tryz.ntmps96
      go_wp2
      go_ret
      refine ⟨Says.no fun hh => ?_, rfl⟩
      have := hh.length_le
      simp at this
      exact h this
  go_enter Tryz.func74, Tryz.ntmps74
  go_wp2_with fail
  refine h32.mono ?_
  rintro e w' ⟨⟨b, rfl, hb⟩, rfl⟩
  go_wp2
  go_ret
  exact ⟨⟨_, rfl, hb⟩, rfl⟩

theorem takes_1 {k q s : ByteArray} {lo hi n : Int} : Takes ⟨k, 1, lo, hi, q⟩ ⟨n, s⟩ ↔ (lo ≤ n ∧ n ≤ hi) := by simp [Takes]
theorem takes_2 {k q s : ByteArray} {lo hi n : Int} : Takes ⟨k, 2, lo, hi, q⟩ ⟨n, s⟩ ↔ s = q := by simp [Takes]
theorem takes_3 {k q s : ByteArray} {op lo hi n : Int} (h1 : op ≠ 1) (h2 : op ≠ 2) : Takes ⟨k, op, lo, hi, q⟩ ⟨n, s⟩ ↔ q.data.toList <+: s.data.toList := by simp [Takes, h1, h2]
theorem toList_inj {s t : ByteArray} : s.toList = t.toList ↔ s = t := by
  constructor
  · intro h
    have h' : s.data.toList = t.data.toList := by simpa [ByteArray.toList_eq] using h
    cases s; cases t; simp at h'; simp [h']
  · rintro rfl; rfl

set_option maxHeartbeats 1000000 in
theorem takes_any (k q s : ByteArray) (op lo hi n : Int) (w : World) (hs : s.size ≤ maxLen) (hq : q.size ≤ maxLen) :
    Calls Tryz.prog 49 #[.agg #[.string k, .int .i64 op, .int .i64 lo, .int .i64 hi, .string q], .agg #[.int .i64 n, .string s]] w
      fun e w' => Says e (Takes ⟨k, op, lo, hi, q⟩ ⟨n, s⟩) ∧ Below w.heap.size w w' := by
  by_cases k1 : op = 1
  · subst k1
    by_cases c1 : lo ≤ n
    all_goals
      go_enter Tryz.func49, Tryz.ntmps49
      go_wp2
      go_ret
      refine ⟨⟨_, rfl, ?_⟩, below2 _ _ _⟩
      rw [takes_1]; simp <;> omega
  · by_cases k2 : op = 2
    · subst k2
      go_enter Tryz.func49, Tryz.ntmps49
      go_wp2
      go_ret
      refine ⟨⟨_, rfl, ?_⟩, below2 _ _ _⟩
      rw [takes_2]; simp [toList_inj]
    · go_enter Tryz.func49, Tryz.ntmps49
      go_wp2_with (go_at_call 74; refine (prefix_any _ _ _ hs hq).mono ?_; rintro e w' ⟨⟨b, rfl, hb⟩, rfl⟩)
      go_ret
      exact ⟨⟨_, rfl, by rw [takes_3 k1 k2]; exact hb⟩, below2 _ _ _⟩

theorem enter_ff : ∀ args w, (callFunc 68 args).run Tryz.prog w = .ok (.enter 68 args) w := fun args w => by kernel_rfl
theorem enter_fl : ∀ args w, (callFunc 71 args).run Tryz.prog w = .ok (.enter 71 args) w := fun args w => by kernel_rfl

theorem find1v_any (nm x : ByteArray) (kd mn mx : Int) (b : Nat) (w : World) (hb : w.cell? ⟨b, 0, none⟩ = some (.string x)) (hlt : b < w.heap.size) :
    Calls Tryz.prog 68 (#[.agg #[.string nm, .int .i64 kd, .int .i64 mn, .int .i64 mx]] ++ #[.pointer (some ⟨b, 0, none⟩)]) w fun e w' => Says e (nm = x) ∧ Below w.heap.size w w' := by
  go_enter Tryz.func68, Tryz.ntmps68
  go_wp2
  go_ret
  exact ⟨⟨_, rfl, by simp [toList_inj]⟩, below1 _ _⟩

theorem filt1_any (nm q x : ByteArray) (op lo hi : Int) (b : Nat) (w : World) (hb : w.cell? ⟨b, 0, none⟩ = some (.string x)) (hlt : b < w.heap.size) :
    Calls Tryz.prog 71 (#[.agg #[.string nm, .int .i64 op, .int .i64 lo, .int .i64 hi, .string q]] ++ #[.pointer (some ⟨b, 0, none⟩)]) w fun e w' => Says e (nm = x) ∧ Below w.heap.size w w' := by
  go_enter Tryz.func71, Tryz.ntmps71
  go_wp2
  go_ret
  exact ⟨⟨_, rfl, by simp [toList_inj]⟩, below1 _ _⟩

theorem AtIn.row {w : World} {a : Option Addr} {n c : Nat} {az : List At} (h : AtIn w (.slice a n c) az) (k : Nat) (hk : k < az.length) :
    ∃ g, a = some ⟨g, 0, none⟩ ∧ g < w.heap.size ∧ az.length ≤ c ∧ w.cell? ⟨g, k * 4, none⟩ = some (.string (az.getD k at0).name) ∧ w.cell? ⟨g, k * 4 + 1, none⟩ = some (.int .i64 (az.getD k at0).kind) ∧ w.cell? ⟨g, k * 4 + 2, none⟩ = some (.int .i64 (az.getD k at0).mn) ∧ w.cell? ⟨g, k * 4 + 3, none⟩ = some (.int .i64 (az.getD k at0).mx) := by
  obtain ⟨a', c', e, hh⟩ := h.shape
  obtain ⟨g, ha, hg, hc, hj⟩ := hh (by omega)
  simp at e
  obtain ⟨rfl, rfl, rfl⟩ := e
  exact ⟨g, ha, hg, hc, hj k hk⟩
theorem VlIn.row {w : World} {a : Option Addr} {n c : Nat} {az : List Vl} (h : VlIn w (.slice a n c) az) (k : Nat) (hk : k < az.length) :
    ∃ g, a = some ⟨g, 0, none⟩ ∧ g < w.heap.size ∧ az.length ≤ c ∧ w.cell? ⟨g, k * 2, none⟩ = some (.int .i64 (az.getD k vl0).num) ∧ w.cell? ⟨g, k * 2 + 1, none⟩ = some (.string (az.getD k vl0).str) := by
  obtain ⟨a', c', e, hh⟩ := h.shape
  obtain ⟨g, ha, hg, hc, hj⟩ := hh (by omega)
  simp at e
  obtain ⟨rfl, rfl, rfl⟩ := e
  exact ⟨g, ha, hg, hc, hj k hk⟩
theorem PdIn.row {w : World} {a : Option Addr} {n c : Nat} {az : List Pd} (h : PdIn w (.slice a n c) az) (k : Nat) (hk : k < az.length) :
    ∃ g, a = some ⟨g, 0, none⟩ ∧ g < w.heap.size ∧ az.length ≤ c ∧ w.cell? ⟨g, k * 5, none⟩ = some (.string (az.getD k pd0).name) ∧ w.cell? ⟨g, k * 5 + 1, none⟩ = some (.int .i64 (az.getD k pd0).op) ∧ w.cell? ⟨g, k * 5 + 2, none⟩ = some (.int .i64 (az.getD k pd0).lo) ∧ w.cell? ⟨g, k * 5 + 3, none⟩ = some (.int .i64 (az.getD k pd0).hi) ∧ w.cell? ⟨g, k * 5 + 4, none⟩ = some (.string (az.getD k pd0).str) := by
  obtain ⟨a', c', e, hh⟩ := h.shape
  obtain ⟨g, ha, hg, hc, hj⟩ := hh (by omega)
  simp at e
  obtain ⟨rfl, rfl, rfl⟩ := e
  exact ⟨g, ha, hg, hc, hj k hk⟩

set_option maxHeartbeats 1000000 in
theorem indexA_any (f : Nat) (cb : Array Value) (v : Value) (az : List At) (p : Nat → Prop) (w : World) (eg : ∀ args w, (callFunc f args).run Tryz.prog w = .ok (.enter f args) w) (hl : az.length ≤ 1000) (h : AtIn w v az)
    (hf : ∀ (W : World) (i : Nat), i < az.length → Below w.heap.size w W → Calls Tryz.prog f (#[(az.getD i at0).agg] ++ cb) W fun e w' => Says e (p i) ∧ Below W.heap.size W w') :
    Calls Tryz.prog 67 #[v, .func (.func f) #[] cb] w fun e w' =>
      (∃ r : Int, e = .returned (.int .i64 r) ∧ ((∃ k : Nat, r = k ∧ k < az.length ∧ p k ∧ ∀ j, j < k → ¬ p j) ∨ (r = -1 ∧ ∀ j, j < az.length → ¬ p j))) ∧ Below w.heap.size w w' := by
  have HF : Hid _ := hf
  obtain ⟨a, c, rfl, hh⟩ := h.shape
  have HH : Hid _ := hh
  clear hf h hh
  go_enter Tryz.func67, Tryz.ntmps67
  go_wp2
  go_loopg [8] az.length (fun kx s8 wr => ∃ k : Nat, s8 = .int .i64 k ∧ k ≤ az.length ∧ kx = az.length - k ∧ Hid (Below w.heap.size w wr) ∧ Hid (∀ j, j < k → ¬ p j))
  case atStart => exact ⟨0, rfl, Nat.zero_le _, rfl, (Below.refl _ _ : Below w.heap.size w w), (fun j hj => absurd hj (Nat.not_lt_zero _) : ∀ j, j < 0 → ¬ p j)⟩
  case round =>
    obtain ⟨k, rfl, hk, rfl, HB, I⟩ := hrel
    by_cases hlt : k < az.length
    · obtain ⟨g, rfl, hg, hcap, hj⟩ := HH.out (by omega)
      obtain ⟨c0, c1, c2, c3⟩ := hj k hlt
      have e : ∀ o, wr.cell? ⟨g, o, none⟩ = w.cell? ⟨g, o, none⟩ := fun o => HB.out.cell (p := ⟨g, o, none⟩) hg
      rw [← e] at c0 c1 c2 c3
      have hc := HF.out wr k hlt HB.out
      unfold At.agg at hc
      generalize az.getD k at0 = x at c0 c1 c2 c3 hc
      clear e hj
      go_wp2_with fail
      refine hc.mono ?_
      rintro e w' ⟨⟨b, rfl, hb⟩, hbw⟩
      have HB2 : Hid (Below w.heap.size w w') := HB.out.trans (hbw.mono HB.out.size)
      clear hc
      cases b
      · have hnp : ¬ p k := fun hp => by have := hb.mpr hp; simp at this
        have I2 : Hid (∀ j, j < k + 1 → ¬ p j) := fun j hjk => by
          by_cases e : j = k
          · subst e; exact hnp
          · exact I.out j (by omega)
        clear hb hnp hbw c0 c1 c2 c3
        go_wp2
        go_roundg (az.length - (k + 1))
        case measure => omega
        case rel => exact ⟨k + 1, by go_num, by omega, rfl, HB2, I2⟩
      · have hp : Hid (p k) := hb.mp rfl
        clear hb hbw c0 c1 c2 c3
        go_wp2
        go_ret
        exact ⟨⟨_, rfl, .inl ⟨k, rfl, hlt, hp.out, I.out⟩⟩, HB2.out⟩
    · go_wp2
      go_ret
      exact ⟨⟨_, rfl, .inr ⟨rfl, fun j hj => I.out j (by omega)⟩⟩, HB.out⟩
set_option maxHeartbeats 1000000 in
theorem indexP_any (f : Nat) (cb : Array Value) (v : Value) (az : List Pd) (p : Nat → Prop) (w : World) (eg : ∀ args w, (callFunc f args).run Tryz.prog w = .ok (.enter f args) w) (hl : az.length ≤ 1000) (h : PdIn w v az)
    (hf : ∀ (W : World) (i : Nat), i < az.length → Below w.heap.size w W → Calls Tryz.prog f (#[(az.getD i pd0).agg] ++ cb) W fun e w' => Says e (p i) ∧ Below W.heap.size W w') :
    Calls Tryz.prog 95 #[v, .func (.func f) #[] cb] w fun e w' =>
      (∃ r : Int, e = .returned (.int .i64 r) ∧ ((∃ k : Nat, r = k ∧ k < az.length ∧ p k ∧ ∀ j, j < k → ¬ p j) ∨ (r = -1 ∧ ∀ j, j < az.length → ¬ p j))) ∧ Below w.heap.size w w' := by
  have HF : Hid _ := hf
  obtain ⟨a, c, rfl, hh⟩ := h.shape
  have HH : Hid _ := hh
  clear hf h hh
  go_enter Tryz.func95, Tryz.ntmps95
  go_wp2
  go_loopg [8] az.length (fun kx s8 wr => ∃ k : Nat, s8 = .int .i64 k ∧ k ≤ az.length ∧ kx = az.length - k ∧ Hid (Below w.heap.size w wr) ∧ Hid (∀ j, j < k → ¬ p j))
  case atStart => exact ⟨0, rfl, Nat.zero_le _, rfl, (Below.refl _ _ : Below w.heap.size w w), (fun j hj => absurd hj (Nat.not_lt_zero _) : ∀ j, j < 0 → ¬ p j)⟩
  case round =>
    obtain ⟨k, rfl, hk, rfl, HB, I⟩ := hrel
    by_cases hlt : k < az.length
    · obtain ⟨g, rfl, hg, hcap, hj⟩ := HH.out (by omega)
      obtain ⟨c0, c1, c2, c3, c4⟩ := hj k hlt
      have e : ∀ o, wr.cell? ⟨g, o, none⟩ = w.cell? ⟨g, o, none⟩ := fun o => HB.out.cell (p := ⟨g, o, none⟩) hg
      rw [← e] at c0 c1 c2 c3 c4
      have hc := HF.out wr k hlt HB.out
      unfold Pd.agg at hc
      generalize az.getD k pd0 = x at c0 c1 c2 c3 c4 hc
      clear e hj
      go_wp2_with fail
      refine hc.mono ?_
      rintro e w' ⟨⟨b, rfl, hb⟩, hbw⟩
      have HB2 : Hid (Below w.heap.size w w') := HB.out.trans (hbw.mono HB.out.size)
      clear hc
      cases b
      · have hnp : ¬ p k := fun hp => by have := hb.mpr hp; simp at this
        have I2 : Hid (∀ j, j < k + 1 → ¬ p j) := fun j hjk => by
          by_cases e : j = k
          · subst e; exact hnp
          · exact I.out j (by omega)
        clear hb hnp hbw c0 c1 c2 c3 c4
        go_wp2
        go_roundg (az.length - (k + 1))
        case measure => omega
        case rel => exact ⟨k + 1, by go_num, by omega, rfl, HB2, I2⟩
      · have hp : Hid (p k) := hb.mp rfl
        clear hb hbw c0 c1 c2 c3 c4
        go_wp2
        go_ret
        exact ⟨⟨_, rfl, .inl ⟨k, rfl, hlt, hp.out, I.out⟩⟩, HB2.out⟩
    · go_wp2
      go_ret
      exact ⟨⟨_, rfl, .inr ⟨rfl, fun j hj => I.out j (by omega)⟩⟩, HB.out⟩

theorem find_any (v : Value) (az : List At) (n : ByteArray) (w : World) (h : AtIn w v az) (hl : az.length ≤ 1000) :
    Calls Tryz.prog 45 #[v, .string n] w fun e w' => (∃ r : Int, e = .returned (.int .i64 r) ∧ Found az n r) ∧ Below w.heap.size w w' := by
  have hmf : ∀ (fn : Fn) (first cap : Array Value) (w : World), (Instr.makeFunc fn first cap).run Tryz.prog w = .ok (.func fn first cap) w := fun _ _ _ _ => rfl
  have b1 := below1 w (.cells #[.string n] 9)
  have hc := indexA_any 68 #[.pointer (some ⟨w.heap.size, 0, none⟩)] v az (fun i => (az.getD i at0).name = n) (w.alloc (.cells #[.string n] 9)) enter_ff hl (h.below b1)
    (fun W i hi hW => find1v_any _ n _ _ _ w.heap.size W ((hW.cell (p := ⟨w.heap.size, 0, none⟩) (by simp)).trans (World.cell?_alloc_new ..)) (by have := hW.size; simp at this; omega))
  go_enter Tryz.func45, Tryz.ntmps45
  go_wp2_with fail
  refine hc.mono ?_
  rintro e w' ⟨⟨r, rfl, hr⟩, hb⟩
  have HR : Hid (Found az n r) := by
    rcases hr with ⟨k, h1, h2, h3, h4⟩ | ⟨h1, h2⟩
    · exact .inl ⟨k, h1, h2, h3, h4⟩
    · exact .inr ⟨h1, h2⟩
  have HB : Hid (Below w.heap.size w w') := b1.trans (hb.mono b1.size)
  clear hr hc hb b1
  go_wp2
  go_ret
  exact ⟨⟨r, rfl, HR.out⟩, HB.out⟩

/-- Is there one of this name among the predicates? -/
theorem contains_any (v : Value) (ps : List Pd) (b : Nat) (x : ByteArray) (w : World) (h : PdIn w v ps) (hl : ps.length ≤ 1000) (hb : w.cell? ⟨b, 0, none⟩ = some (.string x)) (hlt : b < w.heap.size) :
    Calls Tryz.prog 70 #[v, .func (.func 71) #[] #[.pointer (some ⟨b, 0, none⟩)]] w
      fun e w' => Says e (∃ j, j < ps.length ∧ (ps.getD j pd0).name = x) ∧ Below w.heap.size w w' := by
  have hc := indexP_any 71 #[.pointer (some ⟨b, 0, none⟩)] v ps (fun i => (ps.getD i pd0).name = x) w enter_fl hl h
    (fun W i hi hW => filt1_any _ _ x _ _ _ b W ((hW.cell (p := ⟨b, 0, none⟩) hlt).trans hb) (by have := hW.size; omega))
  go_enter Tryz.func70, Tryz.ntmps70
  go_wp2_with fail
  refine hc.mono ?_
  rintro e w' ⟨⟨r, rfl, hr⟩, hb⟩
  have HR : Hid (0 ≤ r ↔ ∃ j, j < ps.length ∧ (ps.getD j pd0).name = x) := by
    show 0 ≤ r ↔ ∃ j, j < ps.length ∧ (ps.getD j pd0).name = x
    rcases hr with ⟨k, h1, h2, h3, h4⟩ | ⟨h1, h2⟩
    · exact ⟨fun _ => ⟨k, h2, h3⟩, fun _ => by omega⟩
    · exact ⟨fun h => by omega, fun ⟨j, h3, h4⟩ => absurd h4 (h2 j h3)⟩
  have HB : Hid (Below w.heap.size w w') := hb
  clear hr hc hb
  go_wp2
  go_ret
  exact ⟨Says.dec HR.out, HB.out⟩
end Go.Proofs.YtkncpojijfeahaaGreatDoor

/- A region that draws its order, whose operations read and whose callees may lay new memory: one walk, in every world that has grown out of the one ahead of it. No program in sight. -/
namespace Go.Proofs.YtkncpojijfeahaaGreatDoor
open Go.RowKit
set_option linter.unusedVariables false

/-- The worlds that have grown out of w, as a family. -/
theorem grown_fam (w : World) : ∃ (ι : Type) (F : ι → World), Nonempty ι ∧ (∃ i, { w with drawn := w.drawn + 1 } = F i) ∧ (∀ i, Below w.heap.size w (F i)) ∧ (∀ i W, Below w.heap.size (F i) W → ∃ j, W = F j) := by
  have b0 : Below w.heap.size w { w with drawn := w.drawn + 1 } := ⟨rfl, rfl, rfl, Nat.le_refl _, fun _ _ => rfl⟩
  exact ⟨{ W : World // Below w.heap.size w W }, Subtype.val, ⟨⟨_, b0⟩⟩, ⟨⟨_, b0⟩, rfl⟩, fun i => i.2, fun i W h => ⟨⟨W, i.2.trans h⟩, rfl⟩⟩

theorem wp_region_fam {P : Program} {id : Nat} {Q : Exit → Act → World → Prop} {a : Act} {w : World} {l : List Oper} {ι : Type} (F : ι → World) (hF : ∃ i, { w with drawn := w.drawn + 1 } = F i)
    (hm : P.follows .mixedOrders = true) (hB : Region.lexB .any l.toArray = true)
    (h : wpQuiet P l.toArray (fun w' => ∃ n, w' = F n) (fun a' => ∀ w', (∃ n, w' = F n) → Q .normal a' w') l a) : (Code.region id l.toArray true).wp P Q a w :=
  wp_region_quiet (C := fun w' => ∃ n, w' = F n) hm hB hF (by simpa using h)

theorem cell_block {w : World} {a : Addr} {v : Value} (h : w.cell? a = some v) : a.block < w.heap.size := by
  rcases Nat.lt_or_ge a.block w.heap.size with q | q
  · exact q
  · simp [World.cell?, Array.getElem?_eq_none q] at h

theorem cell_grown {w w' : World} {a : Addr} {v : Value} (h : w.cell? a = some v) (hb : Below w.heap.size w w') : w'.cell? a = some v := by
  rw [← h]
  exact World.cell?_of_block (hb.block a.block (cell_block h))
end Go.Proofs.YtkncpojijfeahaaGreatDoor

/- value.Schema.Event: is an event one of the schema's? -/
namespace Go.Proofs.YtkncpojijfeahaaGreatDoor
open Go.ChangeShapes Go.WideShapes Go.ChangeAt Go.RowKit
set_option linter.unusedVariables false

/-- A call's error: none, if P; else a fault of ErrSchema. -/
def ErrIf (e : Ending) (w : World) (P : Prop) : Prop :=
  (e = .returned .nilIface ∧ P) ∨ ∃ (b : Nat) (n : Int), e = .returned (.iface 129 (.pointer (some ⟨b, 0, none⟩))) ∧ ¬ P ∧
    w.heap[b]? = some (.cells #[.string ⟨#[118, 97, 108, 117, 101]⟩, .int .i64 n, .iface 52 (.int .i64 3)] 131 (0, 0))
theorem ErrIf.ok {w : World} {P : Prop} (h : P) : ErrIf (.returned .nilIface) w P := .inl ⟨rfl, h⟩
theorem ErrIf.bad {w : World} {P : Prop} {n : Int} (h : ¬ P) : ErrIf (.returned (.iface 129 (.pointer (some ⟨w.heap.size, 0, none⟩)))) (w.alloc (.cells #[.string ⟨#[118, 97, 108, 117, 101]⟩, .int .i64 n, .iface 52 (.int .i64 3)] 131)) P :=
  .inr ⟨_, _, rfl, h, heap_alloc_new w _⟩
theorem ErrIf.bad2 {w : World} {o : Obj} {P : Prop} {n : Int} (h : ¬ P) : ErrIf (.returned (.iface 129 (.pointer (some ⟨w.heap.size + 1, 0, none⟩)))) ((w.alloc o).alloc (.cells #[.string ⟨#[118, 97, 108, 117, 101]⟩, .int .i64 n, .iface 52 (.int .i64 3)] 131)) P := by
  have := heap_alloc_new (w.alloc o) (.cells #[.string ⟨#[118, 97, 108, 117, 101]⟩, .int .i64 n, .iface 52 (.int .i64 3)] 131)
  have e : (w.alloc o).heap.size = w.heap.size + 1 := by simp
  rw [e] at this
  exact .inr ⟨_, _, rfl, h, this⟩
theorem ErrIf.t {e : Ending} {w : World} {P : Prop} (h : ErrIf e w P) (hp : P) : e = .returned .nilIface := by
  rcases h with ⟨rfl, _⟩ | ⟨_, _, _, hn, _⟩
  · rfl
  · exact absurd hp hn
theorem ErrIf.f {e : Ending} {w : World} {P : Prop} (h : ErrIf e w P) (hp : ¬ P) : ∃ b, e = .returned (.iface 129 (.pointer (some ⟨b, 0, none⟩))) := by
  rcases h with ⟨_, hn⟩ | ⟨b, _, rfl, _⟩
  · exact absurd hn hp
  · exact ⟨b, rfl⟩
theorem Says.t {e : Ending} {P : Prop} (h : Says e P) (hp : P) : e = .returned (.bool true) := by
  obtain ⟨b, rfl, hb⟩ := h
  rw [hb.mpr hp]
theorem Says.f {e : Ending} {P : Prop} (h : Says e P) (hp : ¬ P) : e = .returned (.bool false) := by
  obtain ⟨b, rfl, hb⟩ := h
  cases b
  · rfl
  · exact absurd (hb.mp rfl) hp

set_option maxHeartbeats 2000000 in
theorem event_any (v u : Value) (az : List At) (vs : List Vl) (pay : ByteArray) (w : World) (h : AtIn w v az) (hv : VlIn w u vs) (hl : az.length ≤ 1000) (hl2 : vs.length ≤ 1000) (hp : pay.size ≤ maxLen)
    (hz : ∀ i, i < vs.length → (vs.getD i vl0).str.size ≤ maxLen) :
    Calls Tryz.prog 25 #[v, .agg #[u, .string pay]] w fun e w' => ErrIf e w' (EventOk az vs pay.size) ∧ Below w.heap.size w w' := by
  unfold maxLen at hp
  obtain ⟨w1, hw1⟩ : ∃ w1, w1 = w.alloc (.cells #[u, .string pay] 27) := ⟨_, rfl⟩
  have b1 : Below w.heap.size w w1 := by rw [hw1]; exact below1 _ _
  have s1 : w1.heap.size = w.heap.size + 1 := by rw [hw1]; simp
  have e0 : w1.cell? ⟨w.heap.size, 0, none⟩ = some u := by rw [hw1]; exact World.cell?_alloc_new ..
  obtain ⟨a, c, rfl, hh⟩ := h.shape
  obtain ⟨a', c', rfl, hh'⟩ := hv.shape
  have HZ : Hid (∀ i, i < vs.length → (vs.getD i vl0).str.size ≤ maxLen) := hz
  have H1 : Hid (AtIn w1 (.slice a az.length c) az ∧ VlIn w1 (.slice a' vs.length c') vs) := ⟨h.below b1, hv.below b1⟩
  have B1 : Hid (Below w.heap.size w w1 ∧ w1.heap.size = w.heap.size + 1) := ⟨b1, s1⟩
  clear hz h hv hh hh' b1 s1
  by_cases e1 : vs.length = az.length
  · by_cases e2 : pay.size ≤ 200
    · have E1 : Hid (vs.length = az.length) := e1
      rw [e1] at hw1 e0 H1 ⊢
      clear e1
      go_enter Tryz.func25, Tryz.ntmps25
      go_wp2
      rw [← hw1]
      clear hw1
      go_loopg [22] az.length (fun kx s wr => ∃ k : Nat, s = .int .i64 k ∧ k ≤ az.length ∧ kx = az.length - k ∧ Hid (Below w1.heap.size w1 wr) ∧ Hid (∀ j, j < k → ValOk (az.getD j at0) (vs.getD j vl0)))
      case atStart => exact ⟨0, rfl, Nat.zero_le _, rfl, (Below.refl _ _ : Below w1.heap.size w1 w1), (fun j hj => absurd hj (Nat.not_lt_zero _) : ∀ j, j < 0 → ValOk (az.getD j at0) (vs.getD j vl0))⟩
      case round =>
        obtain ⟨k, rfl, hk, rfl, HB, I⟩ := hrel
        by_cases hlt : k < az.length
        · obtain ⟨g, rfl, hg, hc, c0, c1, c2, c3⟩ := (H1.out.1.below HB.out).row k hlt
          obtain ⟨g', rfl, hg', hc', d0, d1⟩ := (H1.out.2.below HB.out).row k (by have := E1.out; omega)
          have hzz := HZ.out k (by have := E1.out; omega)
          have e0' := cell_grown e0 HB.out
          have hs1 : w1.heap.size ≤ wr.heap.size := HB.out.size
          have hs0 : w.heap.size < wr.heap.size := by have := B1.out.2; omega
          by_cases hP : ValOk (az.getD k at0) (vs.getD k vl0)
          all_goals
            have IK : Hid (ValOk (az.getD k at0) (vs.getD k vl0) → ∀ j, j < k + 1 → ValOk (az.getD j at0) (vs.getD j vl0)) := fun hp j hj => by
              by_cases e : j = k
              · subst e; exact hp
              · exact I.out j (by omega)
            have NK : Hid (EventOk az vs pay.size → ValOk (az.getD k at0) (vs.getD k vl0)) := fun hp => hp.2.2 k hlt
            generalize az.getD k at0 = x at c0 c1 c2 c3 hP IK NK
            generalize vs.getD k vl0 = y at d0 d1 hP IK NK hzz
            have HP : Hid _ := hP
            clear hP
            obtain ⟨W0, hW0⟩ : ∃ W0, W0 = wr.alloc (.cells #[.string x.name, .int .i64 x.kind, .int .i64 x.mn, .int .i64 x.mx] 74) := ⟨_, rfl⟩
            have b0 : Below wr.heap.size wr W0 := by rw [hW0]; exact below1 _ _
            have s0 : W0.heap.size = wr.heap.size + 1 := by rw [hW0]; simp
            have f0 : W0.cell? ⟨wr.heap.size, 0, none⟩ = some (.string x.name) := by rw [hW0]; exact World.cell?_alloc_new ..
            have f1 : W0.cell? ⟨wr.heap.size, 1, none⟩ = some (.int .i64 x.kind) := by rw [hW0]; simp
            have f2 : W0.cell? ⟨wr.heap.size, 2, none⟩ = some (.int .i64 x.mn) := by rw [hW0]; simp
            have f3 : W0.cell? ⟨wr.heap.size, 3, none⟩ = some (.int .i64 x.mx) := by rw [hW0]; simp
            obtain ⟨ι, F, _, hF0, hFb, hFc⟩ := grown_fam W0
            have F0 : ∀ i, (F i).cell? ⟨wr.heap.size, 0, none⟩ = some (.string x.name) := fun i => cell_grown f0 (hFb i)
            have F1 : ∀ i, (F i).cell? ⟨wr.heap.size, 1, none⟩ = some (.int .i64 x.kind) := fun i => cell_grown f1 (hFb i)
            have F2 : ∀ i, (F i).cell? ⟨wr.heap.size, 2, none⟩ = some (.int .i64 x.mn) := fun i => cell_grown f2 (hFb i)
            have F3 : ∀ i, (F i).cell? ⟨wr.heap.size, 3, none⟩ = some (.int .i64 x.mx) := fun i => cell_grown f3 (hFb i)
            have F4 : ∀ i, (F i).cell? ⟨w.heap.size, 0, none⟩ = some (.slice (some ⟨g', 0, none⟩) az.length c') := fun i => cell_grown (cell_grown e0' b0) (hFb i)
            have F5 : ∀ i, (F i).cell? ⟨g', k * 2, none⟩ = some (.int .i64 y.num) := fun i => cell_grown (cell_grown d0 b0) (hFb i)
            have F6 : ∀ i, (F i).cell? ⟨g', k * 2 + 1, none⟩ = some (.string y.str) := fun i => cell_grown (cell_grown d1 b0) (hFb i)
            have HF : Hid ((∃ i, { W0 with drawn := W0.drawn + 1 } = F i) ∧ (∀ i, Below W0.heap.size W0 (F i)) ∧ (∀ i W, Below W0.heap.size (F i) W → ∃ j, W = F j)) := ⟨hF0, hFb, hFc⟩
            have B0 : Hid (Below wr.heap.size wr W0 ∧ W0.heap.size = wr.heap.size + 1) := ⟨b0, s0⟩
            clear hF0 hFb hFc b0 s0 f0 f1 f2 f3
            go_wp2_with fail
            rw [← hW0]
            clear hW0
            refine wp_region_fam F HF.out.1 (by kernel_rfl) (by kernel_rfl) ?_
            repeat (go_big_quiet_step (first | (go_at_call 48; refine (valueOf_any _ _ _ _ _ _ _ hzz).mono ?_; rintro e' w' ⟨hs, hb⟩; exact ⟨by first | exact hs.t HP.out | exact hs.f HP.out, HF.out.2.2 _ _ (hb.mono (HF.out.2.1 _).size)⟩)))
            refine wpQuiet_nil ?_
            rintro _ ⟨i, rfl⟩
            have BF := HF.out.2.1 i
            have BW : Hid (Below w1.heap.size w1 (F i)) := (HB.out.trans (B0.out.1.mono hs1)).trans (BF.mono (by have := B0.out.2; omega))
            have B9 : Hid (Below w.heap.size w w1) := B1.out.1
            generalize F i = Wn at BW
            clear BF F0 F1 F2 F3 F4 F5 F6 HF B0 c0 c1 c2 c3 d0 d1 e0'
            go_wp2_with (go_at_call 43; refine (wrong_any _ _).mono ?_; rintro e w' ⟨rfl, rfl⟩)
          · go_roundg (az.length - (k + 1))
            case measure => omega
            case rel => exact ⟨k + 1, by go_num, by omega, rfl, BW, IK.out HP.out⟩
          · go_ret
            exact ⟨ErrIf.bad fun h => HP.out (NK.out h), (B9.out.trans (BW.out.mono B9.out.size)).trans ((below1 _ _).mono (Nat.le_trans B9.out.size BW.out.size))⟩
        · go_wp2
          go_ret
          exact ⟨ErrIf.ok ⟨E1.out, e2, fun i hi => I.out i (by omega)⟩, B1.out.1.trans (HB.out.mono B1.out.1.size)⟩
    · go_enter Tryz.func25, Tryz.ntmps25
      go_wp2_with (go_at_call 43; refine (wrong_any _ _).mono ?_; rintro e w' ⟨rfl, rfl⟩)
      go_ret
      exact ⟨ErrIf.bad2 fun h => e2 h.2.1, below2 _ _ _⟩
  · have e1' : ¬ ((vs.length : Int) = (az.length : Int)) := by omega
    go_enter Tryz.func25, Tryz.ntmps25
    go_wp2_with (go_at_call 43; refine (wrong_any _ _).mono ?_; rintro e w' ⟨rfl, rfl⟩)
    go_ret
    exact ⟨ErrIf.bad2 fun h => e1 h.1, below2 _ _ _⟩
end Go.Proofs.YtkncpojijfeahaaGreatDoor

/- value.Schema.Check, value.Schema.Filter. -/
namespace Go.Proofs.YtkncpojijfeahaaGreatDoor
open Go.ChangeShapes Go.WideShapes Go.ChangeAt Go.RowKit
set_option linter.unusedVariables false

theorem found_ex (az : List At) (n : ByteArray) : ∃ r, Found az n r := by
  by_cases h : ∃ k, k < az.length ∧ (az.getD k at0).name = n
  · have : ∀ m, (∃ k, k < m ∧ k < az.length ∧ (az.getD k at0).name = n) → ∃ k, FindAt az n k := by
      intro m
      induction m with
      | zero => rintro ⟨k, h, _⟩; omega
      | succ m ih =>
        rintro ⟨k, h1, h2, h3⟩
        by_cases hh : ∃ k, k < m ∧ k < az.length ∧ (az.getD k at0).name = n
        · exact ih hh
        · refine ⟨k, h2, h3, fun j hj e => hh ⟨j, by omega, by omega, e⟩⟩
    obtain ⟨k, h1, h2⟩ := h
    obtain ⟨k', hk'⟩ := this (k + 1) ⟨k, by omega, h1, h2⟩
    exact ⟨k', .inl ⟨k', rfl, hk'⟩⟩
  · exact ⟨-1, .inr ⟨rfl, fun j hj e => h ⟨j, hj, e⟩⟩⟩
theorem Found.uniq {az : List At} {n : ByteArray} {r s : Int} (h : Found az n r) (g : Found az n s) : r = s := by
  rcases h with ⟨k, rfl, hk⟩ | ⟨rfl, hk⟩ <;> rcases g with ⟨l, rfl, hl⟩ | ⟨rfl, hl⟩
  · rw [hk.uniq hl]
  · exact absurd hk.2.1 (hl k hk.1)
  · exact absurd hl.2.1 (hk l hl.1)
  · rfl
theorem AtIn.take {w : World} {a : Option Addr} {n c : Nat} {az : List At} (h : AtIn w (.slice a n c) az) (k : Nat) (hk : k ≤ az.length) : AtIn w (.slice a k c) (az.take k) := by
  have hl : (az.take k).length = k := by simp [hk]
  refine ⟨a, c, by rw [hl], fun hp => ?_⟩
  rw [hl] at hp
  obtain ⟨a', c', e, hh⟩ := h.shape
  obtain ⟨g, ha, hg, hc, hj⟩ := hh (by omega)
  simp at e
  obtain ⟨rfl, rfl, rfl⟩ := e
  refine ⟨g, ha, hg, by omega, fun j hjk => ?_⟩
  rw [getD_take _ _ _ _ (by omega)]
  exact hj j (by omega)
theorem PdIn.take {w : World} {a : Option Addr} {n c : Nat} {az : List Pd} (h : PdIn w (.slice a n c) az) (k : Nat) (hk : k ≤ az.length) : PdIn w (.slice a k c) (az.take k) := by
  have hl : (az.take k).length = k := by simp [hk]
  refine ⟨a, c, by rw [hl], fun hp => ?_⟩
  rw [hl] at hp
  obtain ⟨a', c', e, hh⟩ := h.shape
  obtain ⟨g, ha, hg, hc, hj⟩ := hh (by omega)
  simp at e
  obtain ⟨rfl, rfl, rfl⟩ := e
  refine ⟨g, ha, hg, by omega, fun j hjk => ?_⟩
  rw [getD_take _ _ _ _ (by omega)]
  exact hj j (by omega)

/-- One attribute of a schema is right: in form, and of a name that no one ahead of it has. -/
def Good (az : List At) (i : Nat) : Prop := AttrOk (az.getD i at0) ∧ ∀ j, j < i → (az.getD j at0).name ≠ (az.getD i at0).name
theorem find_take {az : List At} {k : Nat} {r : Int} (hk : k < az.length) (h : Found (az.take k) (az.getD k at0).name r) : r < 0 ↔ ∀ j, j < k → (az.getD j at0).name ≠ (az.getD k at0).name := by
  have hl : (az.take k).length = k := by simp; omega
  rcases h with ⟨l, rfl, h1, h2, h3⟩ | ⟨rfl, h1⟩
  · rw [hl] at h1
    rw [getD_take _ _ _ _ h1] at h2
    exact ⟨fun h => by omega, fun h => absurd h2 (h l h1)⟩
  · refine ⟨fun _ j hj => ?_, fun _ => by omega⟩
    have := h1 j (by omega)
    rwa [getD_take _ _ _ _ hj] at this

set_option maxHeartbeats 2000000 in
theorem check_any (v : Value) (az : List At) (w : World) (h : AtIn w v az) (hl : az.length ≤ 1000) (hz : ∀ i, i < az.length → (az.getD i at0).name.size ≤ maxLen) :
    Calls Tryz.prog 22 #[v] w fun e w' => ErrIf e w' (SchemaOk az) ∧ Below w.heap.size w w' := by
  have H1 : Hid (AtIn w v az) := h
  obtain ⟨a, c, rfl, hh⟩ := h.shape
  have HZ : Hid (∀ i, i < az.length → (az.getD i at0).name.size ≤ maxLen) := hz
  clear hz h hh
  by_cases e1 : 1 ≤ az.length
  · by_cases e2 : az.length ≤ 4
    · go_enter Tryz.func22, Tryz.ntmps22
      go_wp2
      go_loopg [16] az.length (fun kx s wr => ∃ k : Nat, s = .int .i64 k ∧ k ≤ az.length ∧ kx = az.length - k ∧ Hid (Below w.heap.size w wr) ∧ Hid (∀ j, j < k → Good az j))
      case atStart => exact ⟨0, rfl, Nat.zero_le _, rfl, (Below.refl _ _ : Below w.heap.size w w), (fun j hj => absurd hj (Nat.not_lt_zero _) : ∀ j, j < 0 → Good az j)⟩
      case round =>
        obtain ⟨k, rfl, hk, rfl, HB, I⟩ := hrel
        by_cases hlt : k < az.length
        · obtain ⟨g, rfl, hg, hc, c0, c1, c2, c3⟩ := (H1.out.below HB.out).row k hlt
          have hzz := HZ.out k hlt
          have hs1 : w.heap.size ≤ wr.heap.size := HB.out.size
          obtain ⟨r, hr⟩ := found_ex (az.take k) (az.getD k at0).name
          have GR : Hid (r < 0 ↔ ∀ j, j < k → (az.getD j at0).name ≠ (az.getD k at0).name) := find_take hlt hr
          have IK : Hid (AttrOk (az.getD k at0) → r < 0 → ∀ j, j < k + 1 → Good az j) := fun h1 h2 j hj => by
            by_cases e : j = k
            · subst e; exact ⟨h1, GR.out.mp h2⟩
            · exact I.out j (by omega)
          have NK : Hid (SchemaOk az → AttrOk (az.getD k at0) ∧ r < 0) := fun hp => ⟨(hp.2.2 k hlt).1, GR.out.mpr (hp.2.2 k hlt).2⟩
          have HR : Hid (Found (az.take k) (az.getD k at0).name r) := hr
          have hcap : (k : Int) ≤ (c : Int) := by omega
          clear hr GR
          by_cases hP : AttrOk (az.getD k at0) <;> by_cases hr0 : r < 0
          all_goals
            generalize az.getD k at0 = x at c0 c1 c2 c3 hP IK NK HR hzz
            have HP : Hid _ := hP
            have HR0 : Hid _ := hr0
            have hr1 := HR0.out
            clear hP hr0
            obtain ⟨W0, hW0⟩ : ∃ W0, W0 = wr.alloc (.cells #[.string x.name, .int .i64 x.kind, .int .i64 x.mn, .int .i64 x.mx] 74) := ⟨_, rfl⟩
            have b0 : Below wr.heap.size wr W0 := by rw [hW0]; exact below1 _ _
            have s0 : W0.heap.size = wr.heap.size + 1 := by rw [hW0]; simp
            have f0 : W0.cell? ⟨wr.heap.size, 0, none⟩ = some (.string x.name) := by rw [hW0]; exact World.cell?_alloc_new ..
            have f1 : W0.cell? ⟨wr.heap.size, 1, none⟩ = some (.int .i64 x.kind) := by rw [hW0]; simp
            have f2 : W0.cell? ⟨wr.heap.size, 2, none⟩ = some (.int .i64 x.mn) := by rw [hW0]; simp
            have f3 : W0.cell? ⟨wr.heap.size, 3, none⟩ = some (.int .i64 x.mx) := by rw [hW0]; simp
            have A0 : Hid (AtIn W0 (.slice (some ⟨g, 0, none⟩) k c) (az.take k)) := ((H1.out.below HB.out).below b0).take k (by omega)
            obtain ⟨ι, F, _, hF0, hFb, hFc⟩ := grown_fam W0
            have F0 : ∀ i, (F i).cell? ⟨wr.heap.size, 0, none⟩ = some (.string x.name) := fun i => cell_grown f0 (hFb i)
            have F1 : ∀ i, (F i).cell? ⟨wr.heap.size, 1, none⟩ = some (.int .i64 x.kind) := fun i => cell_grown f1 (hFb i)
            have F2 : ∀ i, (F i).cell? ⟨wr.heap.size, 2, none⟩ = some (.int .i64 x.mn) := fun i => cell_grown f2 (hFb i)
            have F3 : ∀ i, (F i).cell? ⟨wr.heap.size, 3, none⟩ = some (.int .i64 x.mx) := fun i => cell_grown f3 (hFb i)
            have HF : Hid ((∃ i, { W0 with drawn := W0.drawn + 1 } = F i) ∧ (∀ i, Below W0.heap.size W0 (F i)) ∧ (∀ i W, Below W0.heap.size (F i) W → ∃ j, W = F j)) := ⟨hF0, hFb, hFc⟩
            have B0 : Hid (Below wr.heap.size wr W0 ∧ W0.heap.size = wr.heap.size + 1) := ⟨b0, s0⟩
            clear hF0 hFb hFc b0 s0 f0 f1 f2 f3
            go_wp2_with fail
            rw [← hW0]
            clear hW0
            refine wp_region_fam F HF.out.1 (by kernel_rfl) (by kernel_rfl) ?_
            repeat (go_big_quiet_step (first
              | (go_at_call 44; refine (attr_any _ _ _ _ _ hzz).mono ?_; rintro e' w' ⟨hs, hb⟩; exact ⟨by first | exact hs.t HP.out | exact hs.f HP.out, HF.out.2.2 _ _ (hb.mono (HF.out.2.1 _).size)⟩)
              | (go_at_call 45; refine (find_any _ (az.take k) _ _ (A0.out.below (HF.out.2.1 _)) (by simp; omega)).mono ?_; rintro e' w' ⟨⟨r', rfl, hr'⟩, hb⟩; exact ⟨by rw [hr'.uniq HR.out], HF.out.2.2 _ _ (hb.mono (HF.out.2.1 _).size)⟩)))
            refine wpQuiet_nil ?_
            rintro _ ⟨i, rfl⟩
            have BF := HF.out.2.1 i
            have BW : Hid (Below w.heap.size w (F i)) := (HB.out.trans (B0.out.1.mono hs1)).trans (BF.mono (by have := B0.out.2; omega))
            generalize F i = Wn at BW
            clear BF F0 F1 F2 F3 HF B0 A0 c0 c1 c2 c3
            go_wp2_with (go_at_call 43; refine (wrong_any _ _).mono ?_; rintro e w' ⟨rfl, rfl⟩)
            first
              | (go_roundg (az.length - (k + 1))
                 case measure => omega
                 case rel => exact ⟨k + 1, by go_num, by omega, rfl, BW, IK.out HP.out HR0.out⟩)
              | (go_ret
                 exact ⟨ErrIf.bad fun h => by first | exact HP.out (NK.out h).1 | exact HR0.out (NK.out h).2, BW.out.trans ((below1 _ _).mono BW.out.size)⟩)
        · go_wp2
          go_ret
          exact ⟨ErrIf.ok ⟨e1, e2, fun i hi => I.out i (by omega)⟩, HB.out⟩
    · go_enter Tryz.func22, Tryz.ntmps22
      go_wp2_with (go_at_call 43; refine (wrong_any _ _).mono ?_; rintro e w' ⟨rfl, rfl⟩)
      go_ret
      exact ⟨ErrIf.bad fun h => e2 h.2.1, below1 _ _⟩
  · go_enter Tryz.func22, Tryz.ntmps22
    go_wp2_with (go_at_call 43; refine (wrong_any _ _).mono ?_; rintro e w' ⟨rfl, rfl⟩)
    go_ret
    exact ⟨ErrIf.bad fun h => e1 h.1, below1 _ _⟩
end Go.Proofs.YtkncpojijfeahaaGreatDoor

/- value.Schema.Filter: is a filter one of the schema's? -/
namespace Go.Proofs.YtkncpojijfeahaaGreatDoor
open Go.ChangeShapes Go.WideShapes Go.ChangeAt Go.RowKit
set_option linter.unusedVariables false

/-- One predicate of a filter is right. -/
def PGood (az : List At) (ps : List Pd) (i : Nat) : Prop := (∀ j, j < i → (ps.getD j pd0).name ≠ (ps.getD i pd0).name) ∧ ∃ k, FindAt az (ps.getD i pd0).name k ∧ PredOk (az.getD k at0) (ps.getD i pd0)
theorem again_take {ps : List Pd} {k : Nat} (hk : k < ps.length) (x : ByteArray) : (∃ j, j < (ps.take k).length ∧ ((ps.take k).getD j pd0).name = x) ↔ ∃ j, j < k ∧ (ps.getD j pd0).name = x := by
  have hl : (ps.take k).length = k := by simp; omega
  rw [hl]
  constructor
  · rintro ⟨j, h1, h2⟩; rw [getD_take _ _ _ _ h1] at h2; exact ⟨j, h1, h2⟩
  · rintro ⟨j, h1, h2⟩; refine ⟨j, h1, ?_⟩; rw [getD_take _ _ _ _ h1]; exact h2

set_option maxHeartbeats 4000000 in
theorem filter_any (v u : Value) (az : List At) (ps : List Pd) (w : World) (h : AtIn w v az) (hv : PdIn w u ps) (hl : az.length ≤ 1000) (hl2 : ps.length ≤ 1000) (hz : ∀ i, i < ps.length → (ps.getD i pd0).str.size ≤ maxLen) :
    Calls Tryz.prog 47 #[v, u] w fun e w' => ErrIf e w' (FilterOk az ps) ∧ Below w.heap.size w w' := by
  have hmf : ∀ (fn : Fn) (first cap : Array Value) (w : World), (Instr.makeFunc fn first cap).run Tryz.prog w = .ok (.func fn first cap) w := fun _ _ _ _ => rfl
  have H1 : Hid (AtIn w v az ∧ PdIn w u ps) := ⟨h, hv⟩
  obtain ⟨a, c, rfl, hh⟩ := h.shape
  obtain ⟨a', c', rfl, hh'⟩ := hv.shape
  have HZ : Hid (∀ i, i < ps.length → (ps.getD i pd0).str.size ≤ maxLen) := hz
  clear hz h hh hv hh'
  by_cases e1 : 1 ≤ ps.length
  · by_cases e2 : ps.length ≤ 4
    · go_enter Tryz.func47, Tryz.ntmps47
      go_wp2
      go_loopg [20] ps.length (fun kx s wr => ∃ k : Nat, s = .int .i64 k ∧ k ≤ ps.length ∧ kx = ps.length - k ∧ Hid (Below w.heap.size w wr) ∧ Hid (∀ j, j < k → PGood az ps j))
      case atStart => exact ⟨0, rfl, Nat.zero_le _, rfl, (Below.refl _ _ : Below w.heap.size w w), (fun j hj => absurd hj (Nat.not_lt_zero _) : ∀ j, j < 0 → PGood az ps j)⟩
      case round =>
        obtain ⟨k, rfl, hk, rfl, HB, I⟩ := hrel
        by_cases hlt : k < ps.length
        · obtain ⟨g, rfl, hg, hc, c0, c1, c2, c3, c4⟩ := (H1.out.2.below HB.out).row k hlt
          have hzz := HZ.out k hlt
          have hs1 : w.heap.size ≤ wr.heap.size := HB.out.size
          have IK : Hid ((¬ ∃ j, j < k ∧ (ps.getD j pd0).name = (ps.getD k pd0).name) → (∃ l, FindAt az (ps.getD k pd0).name l ∧ PredOk (az.getD l at0) (ps.getD k pd0)) → ∀ j, j < k + 1 → PGood az ps j) := fun h1 h2 j hj => by
            by_cases e : j = k
            · subst e; exact ⟨fun i hi e => h1 ⟨i, hi, e⟩, h2⟩
            · exact I.out j (by omega)
          have NK : Hid (FilterOk az ps → (¬ ∃ j, j < k ∧ (ps.getD j pd0).name = (ps.getD k pd0).name) ∧ ∃ l, FindAt az (ps.getD k pd0).name l ∧ PredOk (az.getD l at0) (ps.getD k pd0)) := fun hp =>
            ⟨fun ⟨j, h1, h2⟩ => (hp.2.2 k hlt).1 j h1 h2, (hp.2.2 k hlt).2⟩
          have AG : Hid (∀ x : ByteArray, (∃ j, j < (ps.take k).length ∧ ((ps.take k).getD j pd0).name = x) ↔ ∃ j, j < k ∧ (ps.getD j pd0).name = x) := again_take hlt
          have hcap : (k : Int) ≤ (c' : Int) := by omega
          generalize ps.getD k pd0 = y at c0 c1 c2 c3 c4 IK NK hzz
          obtain ⟨W0, hW0⟩ : ∃ W0, W0 = wr.alloc (.cells #[.string y.name, .int .i64 y.op, .int .i64 y.lo, .int .i64 y.hi, .string y.str] 134) := ⟨_, rfl⟩
          have b0 : Below wr.heap.size wr W0 := by rw [hW0]; exact below1 _ _
          have s0 : W0.heap.size = wr.heap.size + 1 := by rw [hW0]; simp
          have f0 : W0.cell? ⟨wr.heap.size, 0, none⟩ = some (.string y.name) := by rw [hW0]; exact World.cell?_alloc_new ..
          have f1 : W0.cell? ⟨wr.heap.size, 1, none⟩ = some (.int .i64 y.op) := by rw [hW0]; simp
          have f2 : W0.cell? ⟨wr.heap.size, 2, none⟩ = some (.int .i64 y.lo) := by rw [hW0]; simp
          have f3 : W0.cell? ⟨wr.heap.size, 3, none⟩ = some (.int .i64 y.hi) := by rw [hW0]; simp
          have f4 : W0.cell? ⟨wr.heap.size, 4, none⟩ = some (.string y.str) := by rw [hW0]; simp
          have A0 : Hid (PdIn W0 (.slice (some ⟨g, 0, none⟩) k c') (ps.take k)) := ((H1.out.2.below HB.out).below b0).take k (by omega)
          have B0 : Hid (Below w.heap.size w W0 ∧ W0.heap.size = wr.heap.size + 1) := ⟨HB.out.trans (b0.mono hs1), s0⟩
          clear b0 s0
          go_wp2_with fail
          rw [← hW0]
          clear hW0 c0 c1 c2 c3 c4
          refine (contains_any _ (ps.take k) wr.heap.size y.name W0 A0.out (by simp; omega) f0 (by have := B0.out.2; omega)).mono ?_
          rintro e w1 ⟨⟨b, rfl, hb⟩, b1⟩
          have BG : Hid (b = true ↔ ∃ j, j < k ∧ (ps.getD j pd0).name = y.name) := hb.trans (AG.out y.name)
          have g0 := cell_grown f0 b1
          have g1 := cell_grown f1 b1
          have g2 := cell_grown f2 b1
          have g3 := cell_grown f3 b1
          have g4 := cell_grown f4 b1
          have B2 : Hid (Below w.heap.size w w1 ∧ wr.heap.size < w1.heap.size) := ⟨B0.out.1.trans (b1.mono B0.out.1.size), by have := b1.size; have := B0.out.2; omega⟩
          clear f0 f1 f2 f3 f4 hb AG A0 B0 b1
          have hlt1 : wr.heap.size < w1.heap.size := B2.out.2
          go_wp2_with fail
          refine (find_any _ az _ _ (H1.out.1.below B2.out.1) hl).mono ?_
          rintro e w2 ⟨⟨r, rfl, hr⟩, b2⟩
          have HR : Hid (Found az y.name r) := hr
          have f0 := cell_grown g0 b2
          have f1 := cell_grown g1 b2
          have f2 := cell_grown g2 b2
          have f3 := cell_grown g3 b2
          have f4 := cell_grown g4 b2
          have B3 : Hid (Below w.heap.size w w2) := B2.out.1.trans (b2.mono B2.out.1.size)
          clear g0 g1 g2 g3 g4 hr b2
          obtain ⟨ι, F, _, hF0, hFb, hFc⟩ := grown_fam w2
          have F0 : ∀ i, (F i).cell? ⟨wr.heap.size, 0, none⟩ = some (.string y.name) := fun i => cell_grown f0 (hFb i)
          have F1 : ∀ i, (F i).cell? ⟨wr.heap.size, 1, none⟩ = some (.int .i64 y.op) := fun i => cell_grown f1 (hFb i)
          have F2 : ∀ i, (F i).cell? ⟨wr.heap.size, 2, none⟩ = some (.int .i64 y.lo) := fun i => cell_grown f2 (hFb i)
          have F3 : ∀ i, (F i).cell? ⟨wr.heap.size, 3, none⟩ = some (.int .i64 y.hi) := fun i => cell_grown f3 (hFb i)
          have F4 : ∀ i, (F i).cell? ⟨wr.heap.size, 4, none⟩ = some (.string y.str) := fun i => cell_grown f4 (hFb i)
          have HF : Hid ((∃ i, { w2 with drawn := w2.drawn + 1 } = F i) ∧ (∀ i, Below w2.heap.size w2 (F i)) ∧ (∀ i W, Below w2.heap.size (F i) W → ∃ j, W = F j)) := ⟨hF0, hFb, hFc⟩
          clear hF0 hFb hFc f0 f1 f2 f3 f4
          cases b
          · have hng : Hid (¬ ∃ j, j < k ∧ (ps.getD j pd0).name = y.name) := fun h => by have := BG.out.mpr h; simp at this
            by_cases hr0 : r < 0
            · have hno : Hid (¬ ∃ l, FindAt az y.name l ∧ PredOk (az.getD l at0) y) := fun ⟨l, h1, _⟩ => by
                have := HR.out.uniq (.inl ⟨l, rfl, h1⟩); omega
              go_wp2_with fail
              refine wp_region_fam F HF.out.1 (by kernel_rfl) (by kernel_rfl) ?_
              repeat (go_big_quiet_step (fail))
              refine wpQuiet_nil ?_
              rintro _ ⟨i, rfl⟩
              have BW : Hid (Below w.heap.size w (F i)) := B3.out.trans ((HF.out.2.1 i).mono B3.out.size)
              generalize F i = Wn at BW
              clear F0 F1 F2 F3 F4 HF B2 B3
              go_wp2_with (go_at_call 43; refine (wrong_any _ _).mono ?_; rintro e w' ⟨rfl, rfl⟩)
              go_ret
              exact ⟨ErrIf.bad fun h => hno.out (NK.out h).2, BW.out.trans ((below1 _ _).mono BW.out.size)⟩
            · obtain ⟨l, rfl, hfl⟩ : ∃ l : Nat, r = l ∧ FindAt az y.name l := by
                rcases HR.out with h | h
                · exact h
                · omega
              have HFL : Hid (FindAt az y.name l) := hfl
              have hll : l < az.length := hfl.1
              clear hfl hr0
              obtain ⟨g', rfl, hg', hc', d0, d1, d2, d3⟩ := (H1.out.1.below B3.out).row l hll
              have UQ : Hid ((∃ l, FindAt az y.name l ∧ PredOk (az.getD l at0) y) → PredOk (az.getD l at0) y) := fun ⟨m, h1, h2⟩ => by rw [HFL.out.uniq h1]; exact h2
              have UP : Hid (PredOk (az.getD l at0) y → ∃ l, FindAt az y.name l ∧ PredOk (az.getD l at0) y) := fun h => ⟨l, HFL.out, h⟩
              have hFb := HF.out.2.1
              generalize az.getD l at0 = x at d0 d1 d2 d3 UQ UP
              have G0 : ∀ i, (F i).cell? ⟨g', l * 4, none⟩ = some (.string x.name) := fun i => cell_grown d0 (hFb i)
              have G1 : ∀ i, (F i).cell? ⟨g', l * 4 + 1, none⟩ = some (.int .i64 x.kind) := fun i => cell_grown d1 (hFb i)
              have G2 : ∀ i, (F i).cell? ⟨g', l * 4 + 2, none⟩ = some (.int .i64 x.mn) := fun i => cell_grown d2 (hFb i)
              have G3 : ∀ i, (F i).cell? ⟨g', l * 4 + 3, none⟩ = some (.int .i64 x.mx) := fun i => cell_grown d3 (hFb i)
              clear hFb d0 d1 d2 d3
              have hl0 : decide ((l : Int) < 0) = false := decide_eq_false (by omega)
              by_cases hP : PredOk x y
              all_goals
                have HP : Hid _ := hP
                clear hP
                go_wp2_with fail
                refine wp_region_fam F HF.out.1 (by kernel_rfl) (by kernel_rfl) ?_
                repeat (go_big_quiet_step (first
                  | (go_at_call 72; refine (predOf_any _ _ _ _ _ _ _ _ _ _ hzz).mono ?_; rintro e' w' ⟨hs, hb⟩; exact ⟨by first | exact hs.t HP.out | exact hs.f HP.out, HF.out.2.2 _ _ (hb.mono (HF.out.2.1 _).size)⟩)))
                refine wpQuiet_nil ?_
                rintro _ ⟨i, rfl⟩
                have BW : Hid (Below w.heap.size w (F i)) := B3.out.trans ((HF.out.2.1 i).mono B3.out.size)
                generalize F i = Wn at BW
                clear F0 F1 F2 F3 F4 G0 G1 G2 G3 HF B2 B3
                go_wp2_with (go_at_call 43; refine (wrong_any _ _).mono ?_; rintro e w' ⟨rfl, rfl⟩)
              · go_roundg (ps.length - (k + 1))
                case measure => omega
                case rel => exact ⟨k + 1, by go_num, by omega, rfl, BW, IK.out hng.out (UP.out HP.out)⟩
              · go_ret
                exact ⟨ErrIf.bad fun h => HP.out (UQ.out (NK.out h).2), BW.out.trans ((below1 _ _).mono BW.out.size)⟩
          · have hyg : Hid (∃ j, j < k ∧ (ps.getD j pd0).name = y.name) := BG.out.mp rfl
            go_wp2_with fail
            refine wp_region_fam F HF.out.1 (by kernel_rfl) (by kernel_rfl) ?_
            repeat (go_big_quiet_step (fail))
            refine wpQuiet_nil ?_
            rintro _ ⟨i, rfl⟩
            have BW : Hid (Below w.heap.size w (F i)) := B3.out.trans ((HF.out.2.1 i).mono B3.out.size)
            generalize F i = Wn at BW
            clear F0 F1 F2 F3 F4 HF B2 B3
            go_wp2_with (go_at_call 43; refine (wrong_any _ _).mono ?_; rintro e w' ⟨rfl, rfl⟩)
            go_ret
            exact ⟨ErrIf.bad fun h => (NK.out h).1 hyg.out, BW.out.trans ((below1 _ _).mono BW.out.size)⟩
        · go_wp2
          go_ret
          exact ⟨ErrIf.ok ⟨e1, e2, fun i hi => I.out i (by omega)⟩, HB.out⟩
    · go_enter Tryz.func47, Tryz.ntmps47
      go_wp2_with (go_at_call 43; refine (wrong_any _ _).mono ?_; rintro e w' ⟨rfl, rfl⟩)
      go_ret
      exact ⟨ErrIf.bad fun h => e2 h.2.1, below1 _ _⟩
  · go_enter Tryz.func47, Tryz.ntmps47
    go_wp2_with (go_at_call 43; refine (wrong_any _ _).mono ?_; rintro e w' ⟨rfl, rfl⟩)
    go_ret
    exact ⟨ErrIf.bad fun h => e1 h.1, below1 _ _⟩
end Go.Proofs.YtkncpojijfeahaaGreatDoor

/- value.Schema.Match: does a filter take an event? -/
namespace Go.Proofs.YtkncpojijfeahaaGreatDoor
open Go.ChangeShapes Go.WideShapes Go.ChangeAt Go.RowKit
set_option linter.unusedVariables false

set_option maxHeartbeats 4000000 in
theorem match_any (v u x : Value) (az : List At) (ps : List Pd) (vs : List Vl) (pay : ByteArray) (w : World) (h : AtIn w v az) (hu : PdIn w u ps) (hx : VlIn w x vs) (hl : az.length ≤ 1000) (hl2 : ps.length ≤ 1000) (hl3 : vs.length ≤ 1000) (hp : pay.size ≤ maxLen)
    (hz : ∀ i, i < ps.length → (ps.getD i pd0).str.size ≤ maxLen) (hz2 : ∀ i, i < vs.length → (vs.getD i vl0).str.size ≤ maxLen) :
    Calls Tryz.prog 27 #[v, u, .agg #[x, .string pay]] w fun e w' => Says e (MatchOk az ps vs pay.size) ∧ Below w.heap.size w w' := by
  obtain ⟨w1, hw1⟩ : ∃ w1, w1 = w.alloc (.cells #[x, .string pay] 27) := ⟨_, rfl⟩
  have b1 : Below w.heap.size w w1 := by rw [hw1]; exact below1 _ _
  have s1 : w1.heap.size = w.heap.size + 1 := by rw [hw1]; simp
  have e0 : w1.cell? ⟨w.heap.size, 0, none⟩ = some x := by rw [hw1]; exact World.cell?_alloc_new ..
  have e1 : w1.cell? ⟨w.heap.size, 1, none⟩ = some (.string pay) := by rw [hw1]; simp
  have H1 : Hid (AtIn w1 v az ∧ PdIn w1 u ps ∧ VlIn w1 x vs) := ⟨h.below b1, hu.below b1, hx.below b1⟩
  have HF1 := filter_any v u az ps w1 H1.out.1 H1.out.2.1 hl hl2 hz
  obtain ⟨a, c, rfl, hh⟩ := h.shape
  obtain ⟨a', c', rfl, hh'⟩ := hu.shape
  obtain ⟨a'', c'', rfl, hh''⟩ := hx.shape
  have HZ : Hid ((∀ i, i < ps.length → (ps.getD i pd0).str.size ≤ maxLen) ∧ (∀ i, i < vs.length → (vs.getD i vl0).str.size ≤ maxLen) ∧ pay.size ≤ maxLen) := ⟨hz, hz2, hp⟩
  have B1 : Hid (Below w.heap.size w w1 ∧ w1.heap.size = w.heap.size + 1) := ⟨b1, s1⟩
  have hsz : w.heap.size < w1.heap.size := by omega
  clear hz hz2 hp h hu hx hh hh' hh'' b1 s1
  go_enter Tryz.func27, Tryz.ntmps27
  go_wp2_with fail
  rw [← hw1]
  clear hw1
  refine HF1.mono ?_
  rintro e w2 ⟨hE, b2⟩
  clear HF1
  have B2 : Hid (Below w1.heap.size w1 w2) := b2
  have f0 := cell_grown e0 b2
  have f1 := cell_grown e1 b2
  have hsz2 : w.heap.size < w2.heap.size := by have := b2.size; omega
  clear b2
  rcases hE with ⟨rfl, hF⟩ | ⟨bb, nn, rfl, hF, _⟩
  · have HFil : Hid (FilterOk az ps) := hF
    clear hF
    go_wp2_with fail
    refine (event_any _ _ az vs pay _ (H1.out.1.below B2.out) (H1.out.2.2.below B2.out) hl hl3 HZ.out.2.2 HZ.out.2.1).mono ?_
    rintro e w3 ⟨hE, b3⟩
    have B3 : Hid (Below w1.heap.size w1 w3) := B2.out.trans (b3.mono B2.out.size)
    have g0 := cell_grown f0 b3
    have hsz3 : w.heap.size < w3.heap.size := by have := b3.size; omega
    clear b3 f0 f1
    rcases hE with ⟨rfl, hF⟩ | ⟨bb, nn, rfl, hF, _⟩
    · have HEv : Hid (EventOk az vs pay.size) := hF
      have HLe : Hid (vs.length = az.length) := hF.1
      clear hF
      go_wp2
      go_loopg [21] ps.length (fun kx s wr => ∃ k : Nat, s = .int .i64 k ∧ k ≤ ps.length ∧ kx = ps.length - k ∧ Hid (Below w3.heap.size w3 wr) ∧ Hid (∀ j, j < k → ∃ l, FindAt az (ps.getD j pd0).name l ∧ Takes (ps.getD j pd0) (vs.getD l vl0)))
      case atStart => exact ⟨0, rfl, Nat.zero_le _, rfl, (Below.refl _ _ : Below w3.heap.size w3 w3), (fun j hj => absurd hj (Nat.not_lt_zero _) : ∀ j, j < 0 → ∃ l, FindAt az (ps.getD j pd0).name l ∧ Takes (ps.getD j pd0) (vs.getD l vl0))⟩
      case round =>
        obtain ⟨k, rfl, hk, rfl, HB, I⟩ := hrel
        have B4 : Hid (Below w1.heap.size w1 wr) := B3.out.trans (HB.out.mono B3.out.size)
        by_cases hlt : k < ps.length
        · obtain ⟨g, rfl, hg, hc, c0, c1, c2, c3, c4⟩ := (H1.out.2.1.below B4.out).row k hlt
          obtain ⟨l, hfl, hpl⟩ := (HFil.out.2.2 k hlt).2
          have hll : l < az.length := hfl.1
          have hlv : l < vs.length := by have := HLe.out; omega
          obtain ⟨g', rfl, hg', hc', d0, d1⟩ := (H1.out.2.2.below B4.out).row l hlv
          have hzz := HZ.out.1 k hlt
          have hzv := HZ.out.2.1 l hlv
          have e0' := cell_grown g0 HB.out
          have hs1 : w1.heap.size ≤ wr.heap.size := B4.out.size
          have hs0 : w.heap.size < wr.heap.size := by omega
          have IK : Hid (Takes (ps.getD k pd0) (vs.getD l vl0) → ∀ j, j < k + 1 → ∃ l, FindAt az (ps.getD j pd0).name l ∧ Takes (ps.getD j pd0) (vs.getD l vl0)) := fun h1 j hj => by
            by_cases e : j = k
            · subst e; exact ⟨l, hfl, h1⟩
            · exact I.out j (by omega)
          have NK : Hid (MatchOk az ps vs pay.size → Takes (ps.getD k pd0) (vs.getD l vl0)) := fun hp => by
            obtain ⟨m, h1, h2⟩ := hp.2.2 k hlt
            rw [hfl.uniq h1]; exact h2
          have HR : Hid (Found az (ps.getD k pd0).name l) := .inl ⟨l, rfl, hfl⟩
          clear hfl hpl
          by_cases hP : Takes (ps.getD k pd0) (vs.getD l vl0)
          all_goals
            have HP : Hid _ := hP
            clear hP
            generalize ps.getD k pd0 = y at c0 c1 c2 c3 c4 HP IK NK hzz HR
            generalize vs.getD l vl0 = z at d0 d1 HP IK NK hzv
            obtain ⟨W0, hW0⟩ : ∃ W0, W0 = wr.alloc (.cells #[.string y.name, .int .i64 y.op, .int .i64 y.lo, .int .i64 y.hi, .string y.str] 134) := ⟨_, rfl⟩
            have b0 : Below wr.heap.size wr W0 := by rw [hW0]; exact below1 _ _
            have s0 : W0.heap.size = wr.heap.size + 1 := by rw [hW0]; simp
            have f0 : W0.cell? ⟨wr.heap.size, 0, none⟩ = some (.string y.name) := by rw [hW0]; exact World.cell?_alloc_new ..
            have f1 : W0.cell? ⟨wr.heap.size, 1, none⟩ = some (.int .i64 y.op) := by rw [hW0]; simp
            have f2 : W0.cell? ⟨wr.heap.size, 2, none⟩ = some (.int .i64 y.lo) := by rw [hW0]; simp
            have f3 : W0.cell? ⟨wr.heap.size, 3, none⟩ = some (.int .i64 y.hi) := by rw [hW0]; simp
            have f4 : W0.cell? ⟨wr.heap.size, 4, none⟩ = some (.string y.str) := by rw [hW0]; simp
            obtain ⟨ι, F, _, hF0, hFb, hFc⟩ := grown_fam W0
            have F0 : ∀ i, (F i).cell? ⟨wr.heap.size, 0, none⟩ = some (.string y.name) := fun i => cell_grown f0 (hFb i)
            have F1 : ∀ i, (F i).cell? ⟨wr.heap.size, 1, none⟩ = some (.int .i64 y.op) := fun i => cell_grown f1 (hFb i)
            have F2 : ∀ i, (F i).cell? ⟨wr.heap.size, 2, none⟩ = some (.int .i64 y.lo) := fun i => cell_grown f2 (hFb i)
            have F3 : ∀ i, (F i).cell? ⟨wr.heap.size, 3, none⟩ = some (.int .i64 y.hi) := fun i => cell_grown f3 (hFb i)
            have F4 : ∀ i, (F i).cell? ⟨wr.heap.size, 4, none⟩ = some (.string y.str) := fun i => cell_grown f4 (hFb i)
            have F5 : ∀ i, (F i).cell? ⟨w.heap.size, 0, none⟩ = some (.slice (some ⟨g', 0, none⟩) vs.length c'') := fun i => cell_grown (cell_grown e0' b0) (hFb i)
            have F6 : ∀ i, (F i).cell? ⟨g', l * 2, none⟩ = some (.int .i64 z.num) := fun i => cell_grown (cell_grown d0 b0) (hFb i)
            have F7 : ∀ i, (F i).cell? ⟨g', l * 2 + 1, none⟩ = some (.string z.str) := fun i => cell_grown (cell_grown d1 b0) (hFb i)
            have A0 : Hid (AtIn W0 (.slice a az.length c) az) := (H1.out.1.below B4.out).below b0
            have HF : Hid ((∃ i, { W0 with drawn := W0.drawn + 1 } = F i) ∧ (∀ i, Below W0.heap.size W0 (F i)) ∧ (∀ i W, Below W0.heap.size (F i) W → ∃ j, W = F j)) := ⟨hF0, hFb, hFc⟩
            have B0 : Hid (Below wr.heap.size wr W0 ∧ W0.heap.size = wr.heap.size + 1) := ⟨b0, s0⟩
            clear hF0 hFb hFc b0 s0 f0 f1 f2 f3 f4
            go_wp2_with fail
            rw [← hW0]
            clear hW0
            refine wp_region_fam F HF.out.1 (by kernel_rfl) (by kernel_rfl) ?_
            repeat (go_big_quiet_step (first
              | (go_at_call 45; refine (find_any _ az _ _ (A0.out.below (HF.out.2.1 _)) hl).mono ?_; rintro e' w' ⟨⟨r', rfl, hr'⟩, hb⟩; exact ⟨by rw [hr'.uniq HR.out], HF.out.2.2 _ _ (hb.mono (HF.out.2.1 _).size)⟩)
              | (go_at_call 49; refine (takes_any _ _ _ _ _ _ _ _ hzv hzz).mono ?_; rintro e' w' ⟨hs, hb⟩; exact ⟨by first | exact hs.t HP.out | exact hs.f HP.out, HF.out.2.2 _ _ (hb.mono (HF.out.2.1 _).size)⟩)))
            refine wpQuiet_nil ?_
            rintro _ ⟨i, rfl⟩
            have BF := HF.out.2.1 i
            have BW : Hid (Below w3.heap.size w3 (F i)) := (HB.out.trans (B0.out.1.mono HB.out.size)).trans (BF.mono (by have := B0.out.2; have := HB.out.size; omega))
            generalize F i = Wn at BW
            clear BF F0 F1 F2 F3 F4 F5 F6 F7 HF B0 A0 c0 c1 c2 c3 c4 d0 d1 e0'
            go_wp2
          · go_roundg (ps.length - (k + 1))
            case measure => omega
            case rel => exact ⟨k + 1, by go_num, by omega, rfl, BW, IK.out HP.out⟩
          · go_ret
            exact ⟨Says.no fun h => HP.out (NK.out h), (B1.out.1.trans (B3.out.mono (by omega))).trans (BW.out.mono (by omega))⟩
        · go_wp2
          go_ret
          exact ⟨Says.yes ⟨HFil.out, HEv.out, fun i hi => I.out i (by omega)⟩, B1.out.1.trans (B4.out.mono (by omega))⟩
    · have HEv : Hid (¬ EventOk az vs pay.size) := hF
      clear hF
      go_wp2
      go_ret
      exact ⟨Says.no fun h => HEv.out h.2.1, B1.out.1.trans (B3.out.mono (by omega))⟩
  · have HFil : Hid (¬ FilterOk az ps) := hF
    clear hF
    go_wp2
    go_ret
    exact ⟨Says.no fun h => HFil.out h.1, B1.out.1.trans (B2.out.mono (by omega))⟩
end Go.Proofs.YtkncpojijfeahaaGreatDoor
