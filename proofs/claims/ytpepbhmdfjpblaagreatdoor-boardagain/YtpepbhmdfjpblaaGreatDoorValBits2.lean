/- value.predOf, takes, strings.HasPrefix. -/
import Derived.Test.YtpepbhmdfjpblaaGreatDoorValBits
namespace Go.Proofs.YtpepbhmdfjpblaaGreatDoor
open Go.ChangeShapes Go.WideShapes Go.ChangeAt Go.RowKit
set_option linter.unusedVariables false

theorem pred_1 {nm k q : ByteArray} {kd mn mx lo hi : Int} : PredOk ⟨nm, kd, mn, mx⟩ ⟨k, 1, lo, hi, q⟩ ↔ (kd = 1 ∧ mn ≤ lo ∧ lo ≤ hi ∧ hi ≤ mx ∧ q = ByteArray.empty) := by simp [PredOk]
theorem pred_2 {nm k q : ByteArray} {kd mn mx lo hi : Int} : PredOk ⟨nm, kd, mn, mx⟩ ⟨k, 2, lo, hi, q⟩ ↔ (kd = 2 ∧ StrOk q ∧ lo = 0 ∧ hi = 0) := by simp [PredOk]
theorem pred_3 {nm k q : ByteArray} {kd mn mx lo hi : Int} : PredOk ⟨nm, kd, mn, mx⟩ ⟨k, 3, lo, hi, q⟩ ↔ (¬ q = ByteArray.empty ∧ kd = 2 ∧ StrOk q ∧ lo = 0 ∧ hi = 0) := by simp [PredOk]
theorem pred_0 {nm k q : ByteArray} {kd mn mx op lo hi : Int} (h1 : op ≠ 1) (h2 : op ≠ 2) (h3 : op ≠ 3) : PredOk ⟨nm, kd, mn, mx⟩ ⟨k, op, lo, hi, q⟩ ↔ False := by simp [PredOk, h1, h2, h3]

set_option maxHeartbeats 4000000 in
theorem predOf_any (nm k q : ByteArray) (kd mn mx op lo hi : Int) (w : World) (hs : q.size ≤ maxLen) :
    Calls Tryz.prog 78 #[.agg #[.string nm, .int .i64 kd, .int .i64 mn, .int .i64 mx], .agg #[.string k, .int .i64 op, .int .i64 lo, .int .i64 hi, .string q]] w
      fun e w' => Says e (PredOk ⟨nm, kd, mn, mx⟩ ⟨k, op, lo, hi, q⟩) ∧ Below w.heap.size w w' := by
  by_cases k1 : op = 1
  · subst k1
    by_cases c0 : kd = 1
    · subst c0
      by_cases c1 : mn ≤ lo
      · by_cases c2 : lo ≤ hi
        · by_cases c3 : hi ≤ mx
          · go_enter Tryz.func78, Tryz.ntmps78
            go_wp2
            go_ret
            refine ⟨⟨_, rfl, ?_⟩, below2 _ _ _⟩
            rw [pred_1, ← empty_list]; simp [c1, c2, c3]
          · go_enter Tryz.func78, Tryz.ntmps78
            go_wp2
            go_ret
            refine ⟨⟨_, rfl, ?_⟩, below2 _ _ _⟩
            rw [pred_1]; simp <;> omega
        · go_enter Tryz.func78, Tryz.ntmps78
          go_wp2
          go_ret
          refine ⟨⟨_, rfl, ?_⟩, below2 _ _ _⟩
          rw [pred_1]; simp <;> omega
      · go_enter Tryz.func78, Tryz.ntmps78
        go_wp2
        go_ret
        refine ⟨⟨_, rfl, ?_⟩, below2 _ _ _⟩
        rw [pred_1]; simp <;> omega
    · go_enter Tryz.func78, Tryz.ntmps78
      go_wp2
      go_ret
      refine ⟨⟨_, rfl, ?_⟩, below2 _ _ _⟩
      rw [pred_1]; simp <;> omega
  · by_cases k2 : op = 2
    · subst k2
      by_cases c0 : kd = 2
      · subst c0
        by_cases hn : StrOk q
        · have HN : Hid (StrOk q) := hn
          clear hn
          by_cases c1 : lo = 0
          · subst c1
            go_enter Tryz.func78, Tryz.ntmps78
            go_wp2_with (go_at_call 94; refine (str_any _ _ hs).mono ?_; rintro e w' ⟨⟨b, rfl, hb⟩, rfl⟩; have hb' : b = true := hb.mpr HN.out; subst hb'; clear hb)
            go_ret
            refine ⟨⟨_, rfl, ?_⟩, below2 _ _ _⟩
            rw [pred_2, eq_true HN.out]; simp
          · go_enter Tryz.func78, Tryz.ntmps78
            go_wp2_with (go_at_call 94; refine (str_any _ _ hs).mono ?_; rintro e w' ⟨⟨b, rfl, hb⟩, rfl⟩; have hb' : b = true := hb.mpr HN.out; subst hb'; clear hb)
            go_ret
            refine ⟨⟨_, rfl, ?_⟩, below2 _ _ _⟩
            rw [pred_2]; simp <;> omega
        · have HN : Hid (¬ StrOk q) := hn
          clear hn
          go_enter Tryz.func78, Tryz.ntmps78
          go_wp2_with (go_at_call 94; refine (str_any _ _ hs).mono ?_; rintro e w' ⟨⟨b, rfl, hb⟩, rfl⟩; have hb' : b = false := by { cases b with | false => rfl | true => exact absurd (hb.mp rfl) HN.out }; subst hb'; clear hb)
          go_ret
          refine ⟨⟨_, rfl, ?_⟩, below2 _ _ _⟩
          rw [pred_2, eq_false HN.out]; simp
      · go_enter Tryz.func78, Tryz.ntmps78
        go_wp2
        go_ret
        refine ⟨⟨_, rfl, ?_⟩, below2 _ _ _⟩
        rw [pred_2]; simp <;> omega
    · by_cases k3 : op = 3
      · subst k3
        by_cases ce : q.toList = []
        · have CE : Hid (q = ByteArray.empty) := (empty_list q).mp ce
          have ce' : (q.toList == []) = true := by simpa using ce
          go_enter Tryz.func78, Tryz.ntmps78
          go_wp2
          go_ret
          refine ⟨⟨_, rfl, ?_⟩, below2 _ _ _⟩
          rw [pred_3, eq_true CE.out]; simp
        · have CE : Hid (¬ q = ByteArray.empty) := fun h => ce ((empty_list q).mpr h)
          have ce' : (q.toList == []) = false := by simpa using ce
          by_cases c0 : kd = 2
          · subst c0
            by_cases hn : StrOk q
            · have HN : Hid (StrOk q) := hn
              clear hn
              by_cases c1 : lo = 0
              · subst c1
                go_enter Tryz.func78, Tryz.ntmps78
                go_wp2_with (go_at_call 94; refine (str_any _ _ hs).mono ?_; rintro e w' ⟨⟨b, rfl, hb⟩, rfl⟩; have hb' : b = true := hb.mpr HN.out; subst hb'; clear hb)
                go_ret
                refine ⟨⟨_, rfl, ?_⟩, below2 _ _ _⟩
                rw [pred_3, eq_true HN.out, eq_false CE.out]; simp
              · go_enter Tryz.func78, Tryz.ntmps78
                go_wp2_with (go_at_call 94; refine (str_any _ _ hs).mono ?_; rintro e w' ⟨⟨b, rfl, hb⟩, rfl⟩; have hb' : b = true := hb.mpr HN.out; subst hb'; clear hb)
                go_ret
                refine ⟨⟨_, rfl, ?_⟩, below2 _ _ _⟩
                rw [pred_3]; simp <;> omega
            · have HN : Hid (¬ StrOk q) := hn
              clear hn
              go_enter Tryz.func78, Tryz.ntmps78
              go_wp2_with (go_at_call 94; refine (str_any _ _ hs).mono ?_; rintro e w' ⟨⟨b, rfl, hb⟩, rfl⟩; have hb' : b = false := by { cases b with | false => rfl | true => exact absurd (hb.mp rfl) HN.out }; subst hb'; clear hb)
              go_ret
              refine ⟨⟨_, rfl, ?_⟩, below2 _ _ _⟩
              rw [pred_3, eq_false HN.out]; simp
          · go_enter Tryz.func78, Tryz.ntmps78
            go_wp2
            go_ret
            refine ⟨⟨_, rfl, ?_⟩, below2 _ _ _⟩
            rw [pred_3]; simp <;> omega
      · go_enter Tryz.func78, Tryz.ntmps78
        go_wp2
        go_ret
        refine ⟨⟨_, rfl, ?_⟩, below2 _ _ _⟩
        rw [pred_0 k1 k2 k3]; simp
end Go.Proofs.YtpepbhmdfjpblaaGreatDoor
