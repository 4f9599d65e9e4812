/- The reader of package filter: mark; what stands in the library's variables. -/
import Derived.Test.YtkncpojijfeahaaGreatDoorJoinFilMath
import Derived.Test.YtkncpojijfeahaaGreatDoorShelf
import Derived.WalkSmall
import Derived.Lib.AtoiErrMem
import Derived.Lib.LaidTab
namespace Go.Proofs.YtkncpojijfeahaaGreatDoor
open Go.ChangeShapes Go.WideShapes Go.ChangeAt Go.RowKit
set_option linter.unusedVariables false

theorem pref_is (s q : ByteArray) (b : Bool) (w : World) (hs : s.size ≤ maxLen) (hq : q.size ≤ maxLen) (hb : b = true ↔ q.data.toList <+: s.data.toList) :
    Calls Tryz.prog 74 #[.string s, .string q] w fun e w' => e = .returned (.bool b) ∧ w' = w := by
  have h32 : Calls Tryz.prog 96 #[.string s, .string q] w fun e w' => e = .returned (.bool b) ∧ w' = w := by
    have HB : Hid _ := hb
    clear hb
    unfold maxLen at hs hq
    by_cases h : q.size ≤ s.size
    · go_enter Tryz.func96, Tryz.ntmps96
      go_wp2
      go_ret
      refine ⟨ret_b ?_, rfl⟩
      rw [Bool.eq_iff_iff, HB.out, List.prefix_iff_eq_take]
      simp [ByteArray.toList_eq]
      exact ⟨Eq.symm, Eq.symm⟩
    · go_enter Tryz.func96, Tryz.ntmps96
      go_wp2
      go_ret
      refine ⟨ret_b ?_, rfl⟩
      cases b with
      | false => rfl
      | true =>
        have hh := (HB.out.mp rfl).length_le
        simp at hh
        exact absurd hh h
  go_enter Tryz.func74, Tryz.ntmps74
  go_wp2_with fail
  refine h32.mono ?_
  rintro e w' ⟨rfl, rfl⟩
  go_wp2
  go_ret
  exact ⟨rfl, rfl⟩

set_option maxHeartbeats 1000000 in
theorem mark_any (p : Nat) (s m : ByteArray) (k : Nat) (w : World) (h : Rd w p s k) (hs : s.size ≤ 1000) (hm : m.size ≤ 10) :
    Calls Tryz.prog 115 #[.pointer (some ⟨p, 0, none⟩), .string m] w fun e w' => e = .returned (errV (rMark m.data.toList (dr s k))) ∧ ∃ k', Rd w' p s k' ∧ dr s k' = (rMark m.data.toList (dr s k)).left ∧ Kp w w' p := by
  go_enter Tryz.func115, Tryz.ntmps115
  go_wp2_with fail
  refine (begin_any p s k _ h hs).mono ?_
  rintro e w1 ⟨rfl, b, hR, hb, hK⟩
  cases hres : rBegin (dr s k) with
  | fail ee r =>
    obtain ⟨h1, rfl, rfl⟩ := rBegin_fail hres
    rw [hres] at hb
    have HW : Hid (rMark m.data.toList (dr s k) = .fail true []) := by
      show rMark m.data.toList (dr s k) = .fail true []
      unfold rMark; rw [h1]
    have HR : Hid (Rd w1 p s b ∧ dr s b = [] ∧ Kp w w1 p) := ⟨hR, hb, hK⟩
    clear h1 hb hR hK hres
    simp only [errV, ec]
    go_wp2
    go_ret
    rw [HW.out]
    exact ⟨rfl, b, HR.out.1, HR.out.2.1, HR.out.2.2⟩
  | ok u r =>
    obtain ⟨h1, h2⟩ := rBegin_ok hres
    rw [hres] at hb
    have hb' : dr s b = r := hb
    rw [← hb'] at h1 h2
    have hlt := lt_of_dr h2
    have HD : Hid ((dr s k).dropWhile isBlank = dr s b) := h1
    have HR : Hid (Rd w1 p s b ∧ Kp w w1 p) := ⟨hR, hK⟩
    have x0 := hR.c0
    have x1 := hR.c1
    have xl := hR.lt
    have xf := hR.fz 1
    have hx : Hid ((s.extract b s.size).data.toList = dr s b) := by
      show (s.extract b s.size).data.toList = dr s b
      rw [ext_ba s b s.size (by omega) (Nat.le_refl _), ba_list, List.take_of_length_le (by rw [dr_len]; omega)]
    clear h1 h2 hb hb' hR hK hres
    simp only [errV]
    have hbs : (b : Int) ≤ (s.size : Int) := by omega
    have h0b : (0 : Int) ≤ (b : Int) := by omega
    by_cases hp : m.data.toList <+: dr s b
    · have HW : Hid (rMark m.data.toList (dr s k) = .ok () ((dr s b).drop m.size)) := by
        show rMark m.data.toList (dr s k) = .ok () ((dr s b).drop m.size)
        have hp' := hp
        rw [dr_cons s b hlt] at hp'
        unfold rMark; rw [HD.out, dr_cons s b hlt]; simp [hp']
      have HP : Hid (m.data.toList <+: dr s b) := hp
      have hfit : b + m.size ≤ s.size := by
        have := hp.length_le
        rw [dr_len] at this; simp at this; omega
      clear hp
      go_wp2_with fail
      go_quiet ((go_at_call 74; exact Calls.quiet_of_same (pref_is _ _ true _ (by simp; unfold maxLen; omega) (by unfold maxLen; omega) (by rw [hx.out]; simp [HP.out]))))
      go_wp2
      go_ret
      rw [HW.out]
      refine ⟨rfl, b + m.size, ?_, by simp [dr, Ps.left], (HR.out.2.drewN _).set _⟩
      have := (HR.out.1.drewN nq).set (b + m.size) hfit
      simpa using this
    · have HW : Hid (rMark m.data.toList (dr s k) = .fail false (dr s b)) := by
        show rMark m.data.toList (dr s k) = .fail false (dr s b)
        have hp' := hp
        rw [dr_cons s b hlt] at hp'
        unfold rMark; rw [HD.out, dr_cons s b hlt]; simp [hp']
      have HP : Hid (¬ m.data.toList <+: dr s b) := hp
      clear hp
      go_wp2_with fail
      go_quiet ((go_at_call 74; exact Calls.quiet_of_same (pref_is _ _ false _ (by simp; unfold maxLen; omega) (by unfold maxLen; omega) (by rw [hx.out]; simp [HP.out]))))
      go_wp2
      go_ret
      rw [HW.out]
      exact ⟨rfl, b, HR.out.1.drewN _, rfl, HR.out.2.drewN _⟩

/-- The library's variables hold what they should. -/
structure Env (w : World) : Prop where
  tab : Lib.TabIs Tryz.prog w "internal/strconv.uint64pow10" .u64 Lib.pow10Tab
  syn : ∃ t v, w.cell? ⟨1, 0, none⟩ = some (.iface t v)
  ran : ∃ t v, w.cell? ⟨2, 0, none⟩ = some (.iface t v)
  lt : 6 ≤ w.heap.size
theorem Env.below {B : Nat} {w w' : World} (h : Env w) (hb : Below B w w') (hB : 6 ≤ B) : Env w' := by
  obtain ⟨t1, v1, h1⟩ := h.syn
  obtain ⟨t2, v2, h2⟩ := h.ran
  exact ⟨var?_below hb (by kernel_rfl) (Nat.lt_of_lt_of_le (by decide : 3 < 6) hB) h.tab, ⟨t1, v1, (hb.cell (p := ⟨1, 0, none⟩) (Nat.lt_of_lt_of_le (by decide : 1 < 6) hB)).trans h1⟩,
    ⟨t2, v2, (hb.cell (p := ⟨2, 0, none⟩) (Nat.lt_of_lt_of_le (by decide : 2 < 6) hB)).trans h2⟩, Nat.le_trans h.lt hb.size⟩
end Go.Proofs.YtkncpojijfeahaaGreatDoor
