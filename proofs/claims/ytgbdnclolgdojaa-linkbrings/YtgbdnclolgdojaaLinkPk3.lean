/- link.Packets of an end at which more than eight texts wait; all of its ways together. -/
import Derived.Test.YtgbdnclolgdojaaLinkPk2
namespace Go.Proofs.Ytgbdnclolgdojaa
open Go.ChangeShapes Go.WideShapes Go.ChangeAt Go.RowKit
set_option linter.unusedVariables false

set_option maxRecDepth 100000 in
set_option maxHeartbeats 2000000 in
theorem packets_more (base p o : Nat) (l : Lk) (w : World) (h : LkAt base w p o l) (hq : 0 < l.q.length) (hq2 : l.q.length ≤ 64) (hq8 : 8 < l.q.length) (hss : ∀ s ∈ l.q, s.size ≤ 2000) (ha0 : 0 ≤ l.acked) (ha1 : l.acked ≤ 9000000000000000000) (hc : i64 l.came) :
    Calls Try.prog 8 #[.pointer (some ⟨p, o, none⟩)] w
      fun e w' => ∃ (v : Value) (P : List ByteArray), e = .returned v ∧ w'.ownsRow w.heap.size 9 1 v P.length (txs P) ∧ bys P = l.fst 8 ∧ LkAt base w' p o { l with owes := false } ∧ (Chg w w' p o ∧ w'.cell? ⟨p, o, none⟩ = w.cell? ⟨p, o, none⟩) := by
  obtain ⟨i0, hi, hz0, hz1, hz2⟩ := info_parts Try.infoStr
  obtain ⟨a, c, h1, h2, h3, h4⟩ := h.q
  have hfz := h.fz
  have hlt := h.lt
  have kq := h.k1
  have kc := h.k2
  have HH : Hid (LkAt base w p o l ∧ (∀ s ∈ l.q, s.size ≤ 2000) ∧ i64 l.came) := ⟨h, hss, hc⟩
  rcases h4 with h0 | ⟨b, ob, hab, hb1, hb2, hb3⟩
  · rw [h0] at hq; simp at hq
  subst hab
  have hbp : b ≠ p := by have := h.lo; omega
  obtain ⟨n, hn⟩ : ∃ n, n = l.q.length := ⟨_, rfl⟩
  have HN : Hid (n = l.q.length ∧ ∀ j, j < l.q.length → w.cell? ⟨b, ob + j, none⟩ = some (.string (tx l.q j))) := ⟨hn, hb3⟩
  rw [← hn] at h1 h2 hq hq2 hq8
  have hx : (8 : Int) < (n : Int) := by omega
  have hm2 : 8 ≤ n := by omega
  have hm3 : 8 ≤ c := by omega
  have hm4 : (8 : Int) ≤ (c : Int) := by omega
  obtain ⟨A, hA⟩ : ∃ A, A = l.acked := ⟨_, rfl⟩
  obtain ⟨C, hC⟩ : ∃ C, C = l.came := ⟨_, rfl⟩
  rw [← hA] at kq ha0 ha1
  rw [← hC] at kc
  have HA : Hid (A = l.acked ∧ C = l.came) := ⟨hA, hC⟩
  clear h hss hc hn hb3 hA hC
  go_enter Try.func8, Try.ntmps8
  go_wp2_with fail
  go_quiet (fail)
  go_wp2
  go_loopw [3, 18] (fun x y wr => ∃ (j : Nat) (P : List ByteArray) (a' : Option Addr) (c' : Nat), y = .int .i64 j ∧ x = .slice a' j c' ∧ j ≤ 8 ∧ Hid (P.length = j ∧ bys P = l.fst j ∧ wr.ownsRow w.heap.size 9 1 (.slice a' j c') j (txs P) ∧ Below w.heap.size w wr)) (fun _ y _ => 8 - (intOf y).toNat)
  case atStart => exact ⟨0, [], none, 0, rfl, rfl, Nat.zero_le _, (⟨rfl, rfl, World.ownsRow_nil _ _ _ _, ⟨rfl, rfl, rfl, Nat.le_refl _, fun _ _ => rfl⟩⟩ : ([] : List ByteArray).length = 0 ∧ bys [] = l.fst 0 ∧ _ ∧ _)⟩
  case round =>
    obtain ⟨j, P, a', c', rfl, rfl, hj, H⟩ := hrel
    by_cases hlt2 : j < 8
    · obtain ⟨hPl, hP, hrow, hB⟩ := H.out
      have hj0 : (0 : Int) ≤ (j : Int) := Int.natCast_nonneg _
      have hj1 : (j : Int) < 8 := by omega
      have hjq : j < l.q.length := by rw [← HN.out.1]; omega
      have s0 := (hB.cell (p := ⟨b, ob + j, none⟩) hb2).trans (HN.out.2 j hjq)
      have s1 := (hB.cell (p := ⟨p, o + 1, none⟩) hlt).trans kq
      have s2 := (hB.cell (p := ⟨p, o + 2, none⟩) hlt).trans kc
      have hsp := fun W => spell_any (A + j) C (tx l.q j) W (by unfold i64; omega) (by rw [HA.out.2]; exact HH.out.2.2) (HH.out.2.1 _ (by
        unfold tx; rw [List.getD_eq_getElem?_getD, List.getElem?_eq_getElem hjq]; simp))
      have HSP : Hid _ := hsp
      have HWR : Hid (IntKind.i64.wrap (A + (j : Int)) = A + (j : Int)) := by rw [IntKind.wrap_i64]; exact (by omega : (A + (j : Int) + 9223372036854775808) % 18446744073709551616 - 9223372036854775808 = A + (j : Int))
      have hwz := hB.size
      have hpz : p < wr.heap.size := by omega
      obtain ⟨sx, hsx⟩ : ∃ s, s = tx l.q j := ⟨_, rfl⟩
      rw [← hsx] at s0 HSP
      have HX : Hid (sx = tx l.q j) := hsx
      clear hsp hsx hP hB
      go_wp2_with fail
      go_region_held3 (fun w' => w'.cell? ⟨p, o + 1, none⟩ = some (.int .i64 A) ∧ w'.cell? ⟨p, o + 2, none⟩ = some (.int .i64 C))
        (first
          | go_keep
          | (go_split_ands; exact ⟨by assumption, by assumption⟩))
        (first
          | (go_at_call 21; rw [HWR.out]; refine (HSP.out _).mono ?_; rintro e w1 ⟨⟨S, rfl, hS⟩, hb1'⟩
             have hb2' : Below wr.heap.size wr w1 := ⟨hb1'.os, hb1'.tape, hb1'.output, hb1'.size, hb1'.block⟩
             have hp1 : p < w1.heap.size := by have := hb2'.size; omega
             have hw1z : w.heap.size ≤ w1.heap.size := by have := hb2'.size; omega
             have t1 := (hb2'.cell (p := ⟨p, o + 1, none⟩) hpz).trans s1
             have t2 := (hb2'.cell (p := ⟨p, o + 2, none⟩) hpz).trans s2
             have hrow1 := row_carry1 hrow hb2'
             clear hb1')
          | (have hguard := hrow1; clear hguard; refine step_append_lies _ (by rfl) _ _ _ (by rfl) w.heap.size 9 i0 _ 1 16 Try.underlying22 hi hz0 hz1 hz2 rfl (by omega) _ _ _ (by rfl) (hrow1.alloc _)
              ⟨w1.heap.size, 0, none⟩ 1 1 [.string S] (by rfl) (by rfl) (World.news_of_block (cs := #[.string S]) (t := 9) (fr := (0, 0)) (heap_alloc_new w1 _)) (by simp [Value.oneCell'])
              (by omega) (by unfold maxLen; omega) (by omega) (by simp; omega) (w1.heap.size + 1) (by simp) ?_; intro gg cap w2 hown1 hgrow hat hlt3
             have hfar : some p ≠ (Value.slice a' j c').ownBlock := fun e => by
               have := (hrow.lt p e.symm).1; omega
             have v1 := (hgrow.cell_far ⟨p, o + 1, none⟩ (by simp; omega) hfar).trans ((World.cell?_alloc_lt _ _ ⟨p, o + 1, none⟩ hp1).trans t1)
             have v2 := (hgrow.cell_far ⟨p, o + 2, none⟩ (by simp; omega) hfar).trans ((World.cell?_alloc_lt _ _ ⟨p, o + 2, none⟩ hp1).trans t2)))
      have H2 : Hid ((P ++ [S]).length = j + 1 ∧ bys (P ++ [S]) = l.fst (j + 1) ∧ w2.ownsRow w.heap.size 9 1 (.slice (some ⟨gg, 0, none⟩) (j + 1) cap) (j + 1) (txs (P ++ [S])) ∧ Below w.heap.size w w2) := by
        have hB := H.out.2.2.2
        refine ⟨by simp [hPl], ?_, ?_, (hB.trans (hb2'.mono hB.size)).trans ⟨hgrow.os, hgrow.tape, hgrow.output, Nat.le_trans (by simp) hgrow.size, fun k hk => (hgrow.block k (by simp; omega) (fun e => by have := (hrow1.lt k e.symm).1; omega)).trans (Below.heap_alloc w1 _ k (by omega))⟩⟩
        · rw [fst_succ, ← H.out.2.1, ← HX.out, ← HA.out.1, ← HA.out.2, ← hS]; simp [bys]
        · simpa [txs] using hown1
      clear hgrow hown1 hat hrow hrow1 t1 t2 v1 v2 s1 s2 hb2'
      go_wp2
      go_roundw
      case rel => exact ⟨j + 1, P ++ [S], some ⟨gg, 0, none⟩, cap, by go_num, rfl, by omega, H2⟩
      case measure => simp [intOf]; omega
    · obtain rfl : j = 8 := by omega
      obtain ⟨hPl, hP, hrow, hB⟩ := H.out
      have hL := HH.out.1.below hB
      have hX := hL.setO false
      have k3 := hL.k3
      have kf := hL.fz
      have kl := hL.lt
      have g1 := (hB.cell (p := ⟨p, o, none⟩) hlt).trans h1
      have hne : (Value.slice a' 8 c').ownBlock ≠ some p := fun e => by have := (hrow.lt p e).1; omega
      have hrow' := ownsRow_setCell_other hrow (a := ⟨p, o + 3, none⟩) hne (.bool false)
      have HX : Hid (LkAt base (wr.setCell ⟨p, o + 3, none⟩ (.bool false)) p o { l with owes := false } ∧ (Chg w (wr.setCell ⟨p, o + 3, none⟩ (.bool false)) p o ∧ (wr.setCell ⟨p, o + 3, none⟩ (.bool false)).cell? ⟨p, o, none⟩ = w.cell? ⟨p, o, none⟩) ∧ (wr.setCell ⟨p, o + 3, none⟩ (.bool false)).ownsRow w.heap.size 9 1 (.slice a' 8 c') P.length (txs P) ∧ bys P = l.fst 8) := ⟨hX.1, ⟨(Chg.ofBelow hB hlt).trans hX.2, (set_other (by omega)).trans (hB.cell (p := ⟨p, o, none⟩) hlt)⟩, by rw [hPl]; exact hrow', hP⟩
      have hn0 : ((n : Int) == 0) = false := by simp; omega
      clear hX hL hP hrow hne hrow' hB H
      go_wp2
      go_ret
      exact ⟨_, P, rfl, HX.out.2.2.1, HX.out.2.2.2, HX.out.1, HX.out.2.1⟩

/-- What an end sends. -/
def Lk.out (l : Lk) : List (List UInt8) := if l.q = [] then (if l.owes then [pkB (-1) l.came ByteArray.empty] else []) else l.fst (min l.q.length 8)
/-- An end as it may be. -/
structure Lk.ok (l : Lk) : Prop where
  len : l.q.length ≤ 64
  txt : ∀ s ∈ l.q, s.size ≤ 1970
  a0 : 0 ≤ l.acked
  a1 : l.acked ≤ 1000000000000
  c0 : 0 ≤ l.came
  c1 : l.came ≤ 1000000000000
theorem packets_any (base p o : Nat) (l : Lk) (w : World) (h : LkAt base w p o l) (hok : l.ok) :
    Calls Try.prog 8 #[.pointer (some ⟨p, o, none⟩)] w
      fun e w' => ∃ (v : Value) (P : List ByteArray), e = .returned v ∧ w'.ownsRow w.heap.size 9 1 v P.length (txs P) ∧ bys P = l.out ∧ LkAt base w' p o { l with owes := false } ∧ (Chg w w' p o ∧ w'.cell? ⟨p, o, none⟩ = w.cell? ⟨p, o, none⟩) := by
  have hc : i64 l.came := by have := hok.c0; have := hok.c1; unfold i64; omega
  by_cases hq : l.q = []
  · by_cases ho : l.owes = true
    · refine (packets_ack base p o l w h hq ho hc).mono ?_
      rintro e w' ⟨v, S, rfl, h1, h2, h3, h4⟩
      exact ⟨v, [S], rfl, h1, by simp [bys, Lk.out, hq, ho, h2], h3, h4⟩
    · have ho' : l.owes = false := by simpa using ho
      refine (packets_nil base p o l w h hq ho').mono ?_
      rintro e w' ⟨rfl, h3, h4⟩
      exact ⟨_, [], rfl, World.ownsRow_nil _ _ _ _, by simp [bys, Lk.out, hq, ho'], h3, h4⟩
  · have hp := List.length_pos_iff.2 hq
    have ht : ∀ s ∈ l.q, s.size ≤ 2000 := fun s hs => by have := hok.txt s hs; omega
    have ha := hok.a1
    by_cases h8 : 8 < l.q.length
    · refine (packets_more base p o l w h hp hok.len h8 ht hok.a0 (by omega) hc).mono ?_
      rintro e w' ⟨v, P, rfl, h1, h2, h3, h4⟩
      exact ⟨v, P, rfl, h1, by rw [h2, Lk.out, if_neg hq, Nat.min_eq_right (by omega)], h3, h4⟩
    · refine (packets_few base p o l w h hp hok.len (by omega) ht hok.a0 (by omega) hc).mono ?_
      rintro e w' ⟨v, P, rfl, h1, h2, h3, h4⟩
      exact ⟨v, P, rfl, h1, by rw [h2, Lk.out, if_neg hq, Nat.min_eq_left (by omega)], h3, h4⟩
end Go.Proofs.Ytgbdnclolgdojaa
