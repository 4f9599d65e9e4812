/- The document's reader (wigwagref06): mark, number. -/
import Derived.Test.YtkncpojijfeahaaGreatDoorRefWd
import Derived.Deep.CutBlock
import Derived.Deep.DeepCutAuto
namespace Go.Proofs.YtkncpojijfeahaaGreatDoor
open Go.ChangeShapes Go.WideShapes Go.ChangeAt Go.RowKit
set_option linter.unusedVariables false

set_option maxRecDepth 100000 in
set_option maxHeartbeats 2000000 in
theorem rmark_t (s m : ByteArray) (k : Nat) (w : World) : Calls Tryz.prog 103 #[.agg #[.string s, .int .i64 (k : Int), .bool true], .string m] w fun e w' => e = .returned (.agg #[.string s, .int .i64 (k : Int), .bool true]) ∧ Below w.heap.size w w' := by
  have HS : Hid (Sp w _ s k true) := Sp.init w s k true
  go_enter Tryz.func103, Tryz.ntmps103
  go_wp2_with fail
  refine Calls.mono (rblanks_t s k _) ?_
  rintro e W1 ⟨rfl, b1⟩
  have S1 : Hid (Sp w W1 s k true) := HS.out.below b1
  have S2 : Hid (Sp w _ s k true) := S1.out.set3 k true
  obtain ⟨c0, c1, c2, cf, cl, d0, d1, d2, df, dl⟩ := S1.out.cells
  clear b1 HS
  go_wp2_with fail
  refine Calls.mono (rbad_t s k k _) ?_
  rintro e W3 ⟨rfl, b3⟩
  have S3 : Hid (Sp w W3 s k true) := S2.out.below b3
  clear c0 c1 c2 cf cl d0 d1 d2 df dl b3 S1 S2
  obtain ⟨c0, c1, c2, cf, cl, d0, d1, d2, df, dl⟩ := S3.out.cells
  have HB : Hid _ := S3.out.done (.string s) (.int .i64 (k : Int)) (.bool true)
  go_wp2
  exact bodyPost_ret (v := .agg #[.string s, .int .i64 (k : Int), .bool true]) (by simp [results, Tryz.results103, go_sem, *]) rfl ⟨rfl, HB.out⟩
theorem toL_injF {s t : ByteArray} : s.toList = t.toList → s = t := fun h => by
  rw [ByteArray.toList_eq, ByteArray.toList_eq] at h
  exact ByteArray.ext (Array.toList_inj.1 h)
theorem pre_take {m l : List UInt8} : m <+: l ↔ l.take m.length = m := by
  constructor
  · rintro ⟨t, rfl⟩; simp
  · intro h; exact ⟨l.drop m.length, by have := List.take_append_drop m.length l; rw [h] at this; exact this⟩
theorem mark_eq (s m : ByteArray) (n : Nat) (hn : n + m.size ≤ s.size) : s.extract n (n + m.size) = m ↔ m.data.toList <+: dr s n := by
  rw [ext_ba s n (n + m.size) (by omega) hn, pre_take]
  have e1 : n + m.size - n = m.data.toList.length := by simp
  rw [e1]
  constructor
  · intro h
    have := congrArg (fun x : ByteArray => x.data.toList) h
    simpa [ba_list] using this
  · intro h
    rw [h]; cases m; simp [ba]
set_option maxRecDepth 100000 in
set_option maxHeartbeats 4000000 in
theorem rmark_f (s m : ByteArray) (k : Nat) (w : World) (hk : k ≤ s.size) (hs : s.size ≤ 1000) (hm1 : 1 ≤ m.size) (hm2 : m.size ≤ 10) : Calls Tryz.prog 103 #[.agg #[.string s, .int .i64 (k : Int), .bool false], .string m] w fun e w' => RdS e s (rMark m.data.toList (dr s k)) ∧ Below w.heap.size w w' := by
  have HS : Hid (Sp w _ s k false) := Sp.init w s k false
  have HBL : Hid _ := fun W => rblanks_f s k W hk hs
  have hnd := nb_dr s k
  have hnl := nb_le s k
  generalize nb s k = n at *
  have HN : Hid (dr s n = (dr s k).dropWhile isBlank) := hnd
  clear hnd
  have HLN : Hid (m.data.toList.length = m.size) := by rw [Hid]; simp
  go_enter Tryz.func103, Tryz.ntmps103
  go_wp2_with fail
  refine Calls.mono (HBL.out _) ?_
  rintro e W1 ⟨rfl, b1⟩
  have S1 : Hid (Sp w W1 s k false) := HS.out.below b1
  obtain ⟨c0, c1, c2, cf, cl, d0, d1, d2, df, dl⟩ := S1.out.cells
  clear b1 HS HBL
  go_upto_region 2 with fail
  obtain ⟨V, hV⟩ : ∃ V, V = ((W1.setCell ⟨w.heap.size, 0, none⟩ (.string s)).setCell ⟨w.heap.size, 1, none⟩ (.int .i64 (n : Int))).setCell ⟨w.heap.size, 2, none⟩ (.bool false) := ⟨_, rfl⟩
  rw [← hV]
  have S2 : Hid (Sp w V s n false) := by rw [Hid, hV]; exact S1.out.set3 n false
  clear c0 c1 c2 cf cl d0 d1 d2 df dl hV S1
  obtain ⟨c0, c1, c2, cf, cl, d0, d1, d2, df, dl⟩ := S2.out.cells
  have HFail : ¬ m.data.toList <+: dr s n → Hid (RdS (.returned (.agg #[.string s, .int .i64 (n : Int), .bool true])) s (rMark m.data.toList (dr s k))) := fun hno => by
    show RdS _ _ _
    unfold RdS rMark
    rw [← HN.out]
    by_cases hlt : n < s.size
    · rw [dr_cons s n hlt] at hno ⊢
      simp only
      rw [if_neg hno]
      show Ending.returned _ = Ending.returned (.agg #[.string s, .int .i64 (pos s (s[n] :: dr s (n + 1)) : Int), .bool true])
      rw [← dr_cons s n hlt, pos_dr hnl]
    · obtain rfl : n = s.size := by omega
      rw [dr_end s s.size (Nat.le_refl _)]
      rfl
  have HFL : Hid _ := HFail
  clear HFail
  obtain ⟨q, hq⟩ : ∃ q, q = n + m.size := ⟨_, rfl⟩
  have HQ : Hid (q = n + m.size) := hq
  have hqi : (n : Int) + (m.size : Int) = (q : Int) := by omega
  have hnq : n ≤ q := by omega
  by_cases hroom : n + m.size ≤ s.size
  · have hqs : q ≤ s.size := by omega
    have hr1 : ¬ ((s.size : Int) - (n : Int) < (m.size : Int)) := by omega
    have hd1 : decide ((s.size : Int) - (n : Int) < (m.size : Int)) = false := by simpa using hr1
    clear hq
    by_cases he : s.extract n q = m
    · have HP : Hid (m.data.toList <+: dr s n) := (mark_eq s m n hroom).1 (by rw [← HQ.out]; exact he)
      have HR : Hid (RdS (.returned (.agg #[.string s, .int .i64 (q : Int), .bool false])) s (rMark m.data.toList (dr s k))) := by
        show RdS _ _ _
        unfold RdS rMark
        rw [← HN.out]
        have hp := HP.out
        have hlt : n < s.size := by omega
        rw [dr_cons s n hlt] at hp ⊢
        simp only
        rw [if_pos hp, ← dr_cons s n hlt]
        show Ending.returned _ = Ending.returned (.agg #[.string s, .int .i64 (pos s ((dr s n).drop m.data.toList.length) : Int), .bool false])
        have ep : pos s ((dr s n).drop m.data.toList.length) = q := by
          unfold pos
          rw [List.length_drop, dr_len, HLN.out, HQ.out]
          omega
        rw [ep]
      have HB : Hid _ := (S2.out.set1 q).done (.string s) (.int .i64 (q : Int)) (.bool false)
      clear S2 HFL hroom
      go_wp2
      refine bodyPost_ret (v := .agg #[.string s, .int .i64 (q : Int), .bool false]) (by simp [results, Tryz.results103, go_sem, *]) rfl ⟨HR.out, HB.out⟩
    · have HR : Hid _ := HFL.out (fun h => he (by rw [HQ.out]; exact (mark_eq s m n hroom).2 h))
      have hx1 : (s.extract n q).toList ≠ m.toList := fun h => he (toL_injF h)
      have hx2 : ((s.extract n q).toList == m.toList) = false := by simpa using hx1
      clear he HFL hroom
      go_wp2_with fail
      refine Calls.mono (rbad_f s n n _) ?_
      rintro e W3 ⟨rfl, b3⟩
      have S3 : Hid (Sp w W3 s n false) := S2.out.below b3
      clear c0 c1 c2 cf cl d0 d1 d2 df dl b3 S2
      obtain ⟨c0, c1, c2, cf, cl, d0, d1, d2, df, dl⟩ := S3.out.cells
      have HB : Hid _ := S3.out.done (.string s) (.int .i64 (n : Int)) (.bool true)
      go_wp2
      refine bodyPost_ret (v := .agg #[.string s, .int .i64 (n : Int), .bool true]) (by simp [results, Tryz.results103, go_sem, *]) rfl ⟨HR.out, HB.out⟩
  · have HR : Hid _ := HFL.out (fun h => hroom (by
      have := h.length_le
      rw [dr_len, HLN.out] at this
      omega))
    have hr1 : (s.size : Int) - (n : Int) < (m.size : Int) := by omega
    have hd1 : decide ((s.size : Int) - (n : Int) < (m.size : Int)) = true := by simpa using hr1
    clear HFL
    go_wp2_with fail
    refine Calls.mono (rbad_f s n n _) ?_
    rintro e W3 ⟨rfl, b3⟩
    have S3 : Hid (Sp w W3 s n false) := S2.out.below b3
    clear c0 c1 c2 cf cl d0 d1 d2 df dl b3 S2
    obtain ⟨c0, c1, c2, cf, cl, d0, d1, d2, df, dl⟩ := S3.out.cells
    have HB : Hid _ := S3.out.done (.string s) (.int .i64 (n : Int)) (.bool true)
    go_wp2
    refine bodyPost_ret (v := .agg #[.string s, .int .i64 (n : Int), .bool true]) (by simp [results, Tryz.results103, go_sem, *]) rfl ⟨HR.out, HB.out⟩
end Go.Proofs.YtkncpojijfeahaaGreatDoor
