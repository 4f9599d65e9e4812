/- link.Take of a packet that was spelt. -/
import Derived.Test.YtgbdnclolgdojaaLinkRW
import Derived.Deep.QuietTactic
import Derived.BigQuiet
namespace Go.Proofs.Ytgbdnclolgdojaa
open Go.ChangeShapes Go.WideShapes Go.ChangeAt Go.RowKit
set_option linter.unusedVariables false

/-- What an end does with a packet. -/
def Lk.got (l : Lk) (n c : Int) : Lk := if n = -1 then l.conf c else if n = l.came then { l.conf c with owes := true, came := l.came + 1 } else { l.conf c with owes := true }
def Lk.ans (l : Lk) (n : Int) (s : ByteArray) : ByteArray × Bool := if n ≠ -1 ∧ n = l.came then (s, true) else (ByteArray.empty, false)
theorem conf_came (l : Lk) (c : Int) : (l.conf c).came = l.came := by unfold Lk.conf; split <;> rfl
theorem conf_len (l : Lk) (c : Int) : (l.conf c).q.length ≤ l.q.length := by unfold Lk.conf; split <;> simp

set_option maxRecDepth 100000 in
set_option maxHeartbeats 1000000 in
theorem ltake_back (base p o : Nat) (l : Lk) (n c : Int) (s S : ByteArray) (w : World) (h : LkAt base w p o l) (hq : l.q.length ≤ 64) (ha : 0 ≤ l.acked) (ha2 : l.acked ≤ 9000000000000000000) (hm0 : 0 ≤ l.came) (hm1 : l.came ≤ 9000000000000000000)
    (hS : S.data.toList = pkB n c s) (hn : i64 n) (hc : i64 c) (hs : s.size ≤ 2000) (h1 : -1 ≤ n) (h2 : 0 ≤ c) (h3 : n = -1 → s = ByteArray.empty) :
    Calls Try.prog 9 #[.pointer (some ⟨p, o, none⟩), .string S] w
      fun e w' => e = .returned (.tuple #[.string (l.ans n s).1, .bool (l.ans n s).2, .nilIface]) ∧ LkAt base w' p o (l.got n c) ∧ Chg w w' p o := by
  have hrd := read_back n c s S w hS hn hc hs h1 h2 h3
  have hlt := h.lt
  have HH : Hid (LkAt base w p o l) := h
  have hc2 := hc.2
  have HS : Hid (n = -1 → s = ByteArray.empty) := h3
  clear hS h3 h
  obtain ⟨r1, hr1⟩ : ∃ r, r = (l.ans n s).1 := ⟨_, rfl⟩
  obtain ⟨r2, hr2⟩ : ∃ r, r = (l.ans n s).2 := ⟨_, rfl⟩
  obtain ⟨lg, hlg⟩ : ∃ x, x = l.got n c := ⟨_, rfl⟩
  rw [← hr1, ← hr2, ← hlg]
  have HR : Hid (r1 = (l.ans n s).1 ∧ r2 = (l.ans n s).2 ∧ lg = l.got n c) := ⟨hr1, hr2, hlg⟩
  clear hr1 hr2 hlg
  go_enter Try.func9, Try.ntmps9
  go_wp2_with fail
  refine hrd.mono ?_
  rintro e w1 ⟨rfl, hb1⟩
  have H1 : Hid (LkAt base w1 p o l ∧ Below w.heap.size w w1) := ⟨HH.out.below hb1, hb1⟩
  have hz1 : p < w1.heap.size := by have := hb1.size; omega
  clear hb1 hrd
  go_wp2_with fail
  refine (confirm_any base p o l c _ (H1.out.1.alloc _) hq ha ha2 h2 hc2).mono ?_
  rintro e w2 ⟨rfl, hL2, hC2⟩
  have hP := (hC2.block w1.heap.size (by simp) (by omega)).trans (heap_alloc_new w1 _)
  obtain ⟨d0, d1, d2, df⟩ := three_block hP
  have hPl := lt_of_block hP
  have H2 : Hid (LkAt base w2 p o (l.conf c) ∧ Chg w w2 p o) := ⟨hL2, (Chg.ofBelow H1.out.2 hlt).trans ((Chg.ofBelow ((Below.refl _ _).alloc (Nat.le_refl _) _) hz1).trans hC2)⟩
  have k2 := hL2.k2
  have k3 := hL2.k3
  have kf := hL2.fz
  have kl := hL2.lt
  rw [conf_came] at k2
  clear hL2 hC2 hP H1
  by_cases hm : n = -1
  · have hg : lg = l.conf c := by rw [HR.out.2.2, Lk.got, if_pos hm]
    have ha' : r1 = ByteArray.empty ∧ r2 = false := by rw [HR.out.1, HR.out.2.1]; simp [Lk.ans, hm]
    obtain ⟨rfl, rfl⟩ := ha'
    have HG : Hid (lg = l.conf c) := hg
    subst hm
    clear hg
    go_wp2
    refine bodyPost_ret (v := .tuple #[.string ByteArray.empty, .bool false, .nilIface]) (by simp [results, Try.results9, go_sem]; rfl) rfl ⟨rfl, ?_⟩
    rw [HG.out]
    exact H2.out
  · have hm' : (n == -1) = false := by simpa using hm
    obtain ⟨hL3, hC3⟩ := H2.out.1.setO true
    by_cases hn' : n = l.came
    · have hg : lg = { l.conf c with owes := true, came := l.came + 1 } := by rw [HR.out.2.2, Lk.got, if_neg hm, if_pos hn']
      have ha' : r1 = s ∧ r2 = true := by
        rw [HR.out.1, HR.out.2.1, Lk.ans, if_pos ⟨hm, hn'⟩]; exact ⟨rfl, rfl⟩
      obtain ⟨rfl, rfl⟩ := ha'
      have HG : Hid (lg = { l.conf c with owes := true, came := l.came + 1 }) := hg
      have HX : Hid (LkAt base (w2.setCell ⟨p, o + 3, none⟩ (.bool true)) p o { l.conf c with owes := true } ∧ Chg w (w2.setCell ⟨p, o + 3, none⟩ (.bool true)) p o) := ⟨hL3, H2.out.2.trans hC3⟩
      rw [← hn'] at k2 hm1
      have HN : Hid (n = l.came) := hn'
      clear hg hm hL3 hC3 hn'
      go_wp2_with fail
      go_quiet (fail)
      go_wp2
      refine bodyPost_ret (v := .tuple #[.string r1, .bool true, .nilIface]) (by simp [results, Try.results9, go_sem]) rfl ⟨rfl, ?_⟩
      rw [HG.out, ← HN.out]
      exact ⟨((HX.out.1.drewN _).setC (n + 1)).1, (HX.out.2.drewN _).trans ((HX.out.1.drewN _).setC (n + 1)).2⟩
    · have hg : lg = { l.conf c with owes := true } := by rw [HR.out.2.2, Lk.got, if_neg hm, if_neg hn']
      have ha' : r1 = ByteArray.empty ∧ r2 = false := by
        rw [HR.out.1, HR.out.2.1, Lk.ans, if_neg (fun e => hn' e.2)]; exact ⟨rfl, rfl⟩
      obtain ⟨rfl, rfl⟩ := ha'
      have HG : Hid (lg = { l.conf c with owes := true }) := hg
      have HX : Hid (LkAt base (w2.setCell ⟨p, o + 3, none⟩ (.bool true)) p o { l.conf c with owes := true } ∧ Chg w (w2.setCell ⟨p, o + 3, none⟩ (.bool true)) p o) := ⟨hL3, H2.out.2.trans hC3⟩
      have hne : (n != l.came) = true := by simpa using hn'
      clear hg hm hL3 hC3 hn'
      go_wp2_with fail
      go_quiet (fail)
      go_wp2
      refine bodyPost_ret (v := .tuple #[.string ByteArray.empty, .bool false, .nilIface]) (by simp [results, Try.results9, go_sem]; rfl) rfl ⟨rfl, ?_⟩
      rw [HG.out]
      exact ⟨HX.out.1.drewN _, HX.out.2.drewN _⟩
end Go.Proofs.Ytgbdnclolgdojaa
