/- What msg.Bytes does. -/
import Derived.Test.YtakfinccoffplaaDoorMsWr
namespace Go.Proofs.YtakfinccoffplaaDoor
open Go.ChangeShapes Go.WideShapes Go.ChangeAt Go.RowKit
set_option linter.unusedVariables false

/-- A writer at the first block behind w1, all of w1 as it was. -/
structure Bs (w1 wc : World) (u : Value) (l : List UInt8) : Prop where
  wr : Wr w1.heap.size wc w1.heap.size u l
  bel : Below w1.heap.size w1 wc
theorem Bs.start (w1 : World) : Bs w1 (w1.alloc (.cells #[.slice none 0 0] 59)) (.slice none 0 0) [] :=
  ⟨wr_new _ _ (Nat.le_refl _), (Below.refl _ _).alloc (Nat.le_refl _) _⟩
section
variable {w1 wc : World} {u : Value} {l : List UInt8}
theorem Bs.le (h : Bs w1 wc u l) : w1.heap.size ≤ wc.heap.size := h.bel.size
theorem Bs.cells (h : Bs w1 wc u l) : ∀ b o, b < w1.heap.size → wc.cell? ⟨b, o, none⟩ = w1.cell? ⟨b, o, none⟩ := fun b o hb => h.bel.cell (p := ⟨b, o, none⟩) hb
theorem Bs.next {w' : World} {u' : Value} {l' : List UInt8} (h : Bs w1 wc u l) (h1 : Wr w1.heap.size w' w1.heap.size u' l') (h2 : Kept wc w' w1.heap.size u u') : Bs w1 w' u' l' :=
  ⟨h1, h2.below h.wr h.bel h.le⟩
theorem Bs.int (h : Bs w1 wc u l) (n : Int) (hn : i64 n) (hl : l.length ≤ 1000000) :
    Calls Tryd.prog 18 #[.pointer (some ⟨w1.heap.size, 0, none⟩), .int .i64 n] wc fun e w' => e = .returned (.tuple #[]) ∧ ∃ u', Bs w1 w' u' (l ++ intB n) :=
  (wint_any _ _ _ _ n _ h.wr h.le hn.1 hn.2 hl).mono fun e w' ⟨he, v', hW, hK⟩ => ⟨he, v', h.next hW hK⟩
theorem Bs.text (h : Bs w1 wc u l) (s : ByteArray) (hs : s.size ≤ 1000000) (hl : l.length ≤ 900000) :
    Calls Tryd.prog 19 #[.pointer (some ⟨w1.heap.size, 0, none⟩), .string s] wc fun e w' => e = .returned (.tuple #[]) ∧ ∃ u', Bs w1 w' u' (l ++ txtB s) :=
  (wtext_any _ _ _ _ s _ h.wr h.le hs hl).mono fun e w' ⟨he, v', hW, hK⟩ => ⟨he, v', h.next hW hK⟩
theorem Bs.wish (h : Bs w1 wc u l) (m : Mg) (fa : Option Addr) (fc : Nat) (va : Option Addr) (vc : Nat) (hr : InRow 1 encS okS ByteArray.empty w1 fa m.fl.length m.fl) (hl : l.length + (m.fl.flatMap txtB).length ≤ 800000) :
    Calls Tryd.prog 20 #[.pointer (some ⟨w1.heap.size, 0, none⟩), m.val fa fc va vc] wc
      fun e w' => e = .returned (.tuple #[]) ∧ ∃ u', Bs w1 w' u' (l ++ (if m.any = true then intB (-1) else intB m.fl.length ++ m.fl.flatMap txtB)) :=
  (wish_any _ _ _ _ m fa fc va vc w1 _ h.wr h.le hr (Nat.le_refl _) h.bel hl).mono fun e w' ⟨he, v', hW, hK⟩ => ⟨he, v', h.next hW hK⟩
theorem Bs.event (h : Bs w1 wc u l) (vl : List Vl) (pay : ByteArray) (va : Option Addr) (vc : Nat) (hr : InRow 2 Vl.cells Vl.ok vl0 w1 va vl.length vl) (hl : l.length + (vl.flatMap vlB).length + (txtB pay).length ≤ 800000) :
    Calls Tryd.prog 21 #[.pointer (some ⟨w1.heap.size, 0, none⟩), .agg #[.slice va vl.length vc, .string pay]] wc
      fun e w' => e = .returned (.tuple #[]) ∧ ∃ u', Bs w1 w' u' (l ++ (intB vl.length ++ (vl.flatMap vlB ++ txtB pay))) :=
  (wevent_any _ _ _ _ vl pay va vc w1 _ h.wr h.le hr (Nat.le_refl _) h.bel hl).mono fun e w' ⟨he, v', hW, hK⟩ => ⟨he, v', h.next hW hK⟩
theorem Bs.bytes (h : Bs w1 wc u l) :
    Calls Tryd.prog 22 #[.pointer (some ⟨w1.heap.size, 0, none⟩)] wc fun e w' => e = .returned (.string ⟨l.toArray⟩) ∧ w' = wc :=
  bytes_any _ _ _ _ _ h.wr
end

/-- What Bytes answers. -/
def byR (m : Mg) : ByteArray × Nat := if chk m = 0 then (if 1970 < (mB m).length then (ByteArray.empty, 4) else (⟨(mB m).toArray⟩, 0)) else (ByteArray.empty, chk m)

theorem ba_size (l : List UInt8) : (⟨l.toArray⟩ : ByteArray).size = l.length := by
  show l.toArray.size = l.length
  simp

set_option maxRecDepth 100000 in
set_option maxHeartbeats 4000000 in
theorem mbytes_any (m : Mg) (fa : Option Addr) (fc : Nat) (va : Option Addr) (vc : Nat) (w : World) (hf : InRow 1 encS okS ByteArray.empty w fa m.fl.length m.fl) (hv : InRow 2 Vl.cells Vl.ok vl0 w va m.vl.length m.vl)
    (hg : m.group.size ≤ 9223372036854775807) (hl : (m.fl.flatMap txtB).length + (m.vl.flatMap vlB).length + (txtB m.pay).length ≤ 700000) :
    Calls Tryd.prog 6 #[m.val fa fc va vc] w fun e w' => e = .returned (.tuple #[.string (byR m).1, cdV (byR m).2]) ∧ Below w.heap.size w w' := by
  have hck := mcheck_any m fa fc va vc
  have hvn := hv.2.1
  have hfn := hf.2.1
  by_cases hc : chk m = 0
  · have HC : Hid (chk m = 0) := hc
    obtain ⟨g1, g2⟩ := chk_group hc
    obtain ⟨s1, s2, hK⟩ := chk_shape hc
    have hk := chk_kind hK
    have hE : m.kind = 5 ∨ m.kind = 3 ∨ m.kind = 4 → i64 m.pub ∧ i64 m.seq ∧ i64 m.hops := fun h => by
      have : chkE m = 0 := by
        unfold chkK at hK
        rw [if_neg (by omega), if_neg (by omega)] at hK
        split at hK
        · split at hK
          · omega
          · exact hK
        · rw [if_pos (by omega)] at hK; exact hK
      obtain ⟨q1, q2, q3, q4, q5, q6, q7⟩ := chkE_zero this
      exact ⟨i64_small _ (by omega) (by omega), i64_small _ (by omega) (by omega), i64_small _ (by omega) (by omega)⟩
    have HT : Hid (byR m = if 1970 < (mB m).length then (ByteArray.empty, 4) else (⟨(mB m).toArray⟩, 0)) := (by unfold byR; rw [if_pos hc] : byR m = _)
    have hki : i64 m.kind := i64_small _ (by omega) (by omega)
    clear hc s1 s2 hK
    obtain ⟨bx, hbx⟩ : ∃ bx, bx = Obj.cells #[.int .i64 m.kind, .string m.group, .bool m.any, .slice fa m.fl.length fc, .int .i64 m.pub, .int .i64 m.seq, .int .i64 m.hops, .slice va m.vl.length vc, .string m.pay] 27 := ⟨_, rfl⟩
    have HV : Hid (m.val fa fc va vc = .agg #[.int .i64 m.kind, .string m.group, .bool m.any, .slice fa m.fl.length fc, .int .i64 m.pub, .int .i64 m.seq, .int .i64 m.hops, .slice va m.vl.length vc, .string m.pay]) := (rfl : m.val fa fc va vc = _)
    rw [HV.out]
    have hck1 := hck (w.alloc bx) hg hvn hfn
    rw [HC.out, HV.out] at hck1
    go_enter Tryd.func6, Tryd.ntmps6
    go_wp2_with fail
    rw [← hbx]
    refine hck1.mono ?_
    rintro e w1 ⟨rfl, hb1⟩
    have hx : w1.heap[w.heap.size]? = some bx := (hb1.block _ (by simp)).trans (heap_alloc_new w _)
    rw [hbx] at hx
    have hbw : Below w.heap.size w w1 := ((Below.refl _ _).alloc (Nat.le_refl _) _).trans (hb1.mono (by simp))
    have HF : Hid (InRow 1 encS okS ByteArray.empty w1 fa m.fl.length m.fl ∧ InRow 2 Vl.cells Vl.ok vl0 w1 va m.vl.length m.vl) := ⟨hf.below (Nat.le_refl _) hbw, hv.below (Nat.le_refl _) hbw⟩
    have c0 : w1.cell? ⟨w.heap.size, 0, none⟩ = some (.int .i64 m.kind) := blk_cell (j := 0) hx (by simp)
    have c1 : w1.cell? ⟨w.heap.size, 1, none⟩ = some (.string m.group) := blk_cell (j := 1) hx (by simp)
    have c2 : w1.cell? ⟨w.heap.size, 2, none⟩ = some (.bool m.any) := blk_cell (j := 2) hx (by simp)
    have c3 : w1.cell? ⟨w.heap.size, 3, none⟩ = some (.slice fa m.fl.length fc) := blk_cell (j := 3) hx (by simp)
    have c4 : w1.cell? ⟨w.heap.size, 4, none⟩ = some (.int .i64 m.pub) := blk_cell (j := 4) hx (by simp)
    have c5 : w1.cell? ⟨w.heap.size, 5, none⟩ = some (.int .i64 m.seq) := blk_cell (j := 5) hx (by simp)
    have c6 : w1.cell? ⟨w.heap.size, 6, none⟩ = some (.int .i64 m.hops) := blk_cell (j := 6) hx (by simp)
    have c7 : w1.cell? ⟨w.heap.size, 7, none⟩ = some (.slice va m.vl.length vc) := blk_cell (j := 7) hx (by simp)
    have c8 : w1.cell? ⟨w.heap.size, 8, none⟩ = some (.string m.pay) := blk_cell (j := 8) hx (by simp)
    have hlt := lt_of_block hx
    clear hx hck hck1 hf hv
    have hS0 := Bs.start w1
    have hP : ∀ k : Int, i64 k → (intB k).length ≤ 10 := fun k hk => numB_len10 _ (zig_lt _ hk.1 hk.2)
    have hG : (txtB m.group).length ≤ 60 := by
      have := numB_len10 m.group.size (by omega)
      unfold txtB; simp; omega
    have d0 := hP _ hki
    rw [cdV0]
    go_wp2_with fail
    refine (hS0.int m.kind hki (by simp)).mono ?_
    rintro e w2 ⟨rfl, u2, hS2⟩
    have e2 := hS2.cells
    go_wp2_with fail
    refine (hS2.text m.group (by omega) (by simp; omega)).mono ?_
    rintro e w3 ⟨rfl, u3, hS3⟩
    have hl3 : (([] ++ intB m.kind) ++ txtB m.group).length ≤ 70 := by simp; omega
    obtain ⟨L3, hL3⟩ : ∃ L, L = ([] ++ intB m.kind) ++ txtB m.group := ⟨_, rfl⟩
    rw [← hL3] at hS3 hl3
    have HL3 : Hid (L3 = ([] ++ intB m.kind) ++ txtB m.group) := hL3
    have e3 := hS3.cells
    clear e2 hS2 hS0 hL3
    have HM : Hid (mB m = L3 ++ tlB m) := (by rw [HL3.out]; unfold mB; simp : mB m = L3 ++ tlB m)
    have fin1 : ∀ (wN : World) (uN : Value), Bs w1 wN uN (mB m) → Below w.heap.size w wN := fun wN uN h => hbw.trans (h.bel.mono hbw.size)
    have hlf : (m.fl.flatMap txtB).length ≤ 700000 := by omega
    have hlv : (m.vl.flatMap vlB).length + (txtB m.pay).length ≤ 700000 := by omega
    clear hl
    have hTail : ∀ (wN : World) (uN : Value) (h : Bs w1 wN uN (mB m)), Calls Tryd.prog 22 #[.pointer (some ⟨w1.heap.size, 0, none⟩)] wN fun e w' => e = .returned (.string ⟨(mB m).toArray⟩) ∧ w' = wN := fun wN uN h => h.bytes
    have hz : (⟨(mB m).toArray⟩ : ByteArray).size = (mB m).length := ba_size _
    generalize hD : (⟨(mB m).toArray⟩ : ByteArray) = D at hTail hz HT
    have HD : Hid (D.size = (mB m).length) := hz
    clear hz hD
    have hcase : (1970 < (mB m).length ∧ (1970 : Int) < (D.size : Int)) ∨ (¬ 1970 < (mB m).length ∧ ¬ (1970 : Int) < (D.size : Int)) := by have := HD.out; omega
    rcases hk with hk | hk | hk | hk | hk
    · have q1 := beq_t hk
      have HX : Hid (tlB m = if m.any = true then intB (-1) else intB m.fl.length ++ m.fl.flatMap txtB) := (by unfold tlB; rw [if_pos hk] : tlB m = _)
      clear hk hE
      go_wp2_with fail
      refine (hS3.wish m fa fc va vc HF.out.1 (by omega)).mono ?_
      rintro e wN ⟨rfl, uN, hSN⟩
      rw [← HX.out, ← HM.out] at hSN
      clear c0 c1 c2 c3 c4 c5 c6 c7 c8 e3 hS3
      go_wp2_with fail
      refine (hTail _ _ hSN).mono ?_
      rintro e w5 ⟨rfl, hw5⟩
      subst w5
      rcases hcase with ⟨h1, h2⟩ | ⟨h1, h2⟩
      · rw [if_pos h1] at HT
        go_wp2
        go_ret2
        exact ⟨by rw [HT.out]; rfl, fin1 _ _ hSN⟩
      · rw [if_neg h1] at HT
        go_wp2
        go_ret2
        exact ⟨by rw [HT.out]; rfl, fin1 _ _ hSN⟩
    · have q1 := beq_f (show ¬ m.kind = 1 by omega)
      have q3 := beq_f (show ¬ m.kind = 3 by omega)
      have q4 := beq_f (show ¬ m.kind = 4 by omega)
      have q5 := beq_f (show ¬ m.kind = 5 by omega)
      have hSN : Bs w1 w3 u3 (mB m) := by
        rw [HM.out]
        have : tlB m = [] := by unfold tlB; rw [if_neg (by omega), if_neg (by omega)]
        rw [this, List.append_nil]; exact hS3
      clear hk hE
      go_wp2_with fail
      refine (hTail _ _ hSN).mono ?_
      rintro e w5 ⟨rfl, hw5⟩
      subst w5
      rcases hcase with ⟨h1, h2⟩ | ⟨h1, h2⟩
      · rw [if_pos h1] at HT
        go_wp2
        go_ret2
        exact ⟨by rw [HT.out]; rfl, fin1 _ _ hSN⟩
      · rw [if_neg h1] at HT
        go_wp2
        go_ret2
        exact ⟨by rw [HT.out]; rfl, fin1 _ _ hSN⟩
    · have q1 := beq_f (show ¬ m.kind = 1 by omega)
      have q3 := beq_f (show ¬ m.kind = 3 by omega)
      have q4 := beq_f (show ¬ m.kind = 4 by omega)
      have q5 := beq_t hk
      have n5 := bne_f hk
      obtain ⟨i1, i2, i3⟩ := hE (by omega)
      have d1 := hP _ i1
      have d2 := hP _ i2
      have d3 := hP _ i3
      have HX : Hid (tlB m = intB m.pub ++ intB m.seq) := (by unfold tlB; rw [if_neg (by omega), if_pos (by omega), if_pos hk, List.append_nil] : tlB m = _)
      clear hk hE
      go_wp2_with fail
      refine (hS3.int m.pub i1 (by omega)).mono ?_
      rintro e w4 ⟨rfl, u4, hS4⟩
      have e4 := hS4.cells
      clear e3 hS3
      go_wp2_with fail
      refine (hS4.int m.seq i2 (by simp; omega)).mono ?_
      rintro e wN ⟨rfl, uN, hSN⟩
      rw [List.append_assoc, ← HX.out, ← HM.out] at hSN
      have eN := hSN.cells
      clear e4 hS4
      go_wp2_with fail
      refine (hTail _ _ hSN).mono ?_
      rintro e w5 ⟨rfl, hw5⟩
      subst w5
      rcases hcase with ⟨h1, h2⟩ | ⟨h1, h2⟩
      · rw [if_pos h1] at HT
        go_wp2
        go_ret2
        exact ⟨by rw [HT.out]; rfl, fin1 _ _ hSN⟩
      · rw [if_neg h1] at HT
        go_wp2
        go_ret2
        exact ⟨by rw [HT.out]; rfl, fin1 _ _ hSN⟩
    · have q1 := beq_f (show ¬ m.kind = 1 by omega)
      have q3 := beq_t hk
      have n5 := bne_t (show ¬ m.kind = 5 by omega)
      obtain ⟨i1, i2, i3⟩ := hE (by omega)
      have d1 := hP _ i1
      have d2 := hP _ i2
      have d3 := hP _ i3
      have HX : Hid (tlB m = intB m.pub ++ (intB m.seq ++ (intB m.hops ++ (intB m.vl.length ++ (m.vl.flatMap vlB ++ txtB m.pay))))) := (by unfold tlB; rw [if_neg (by omega), if_pos (by omega), if_neg (by omega)] : tlB m = _)
      clear hk hE
      go_wp2_with fail
      refine (hS3.int m.pub i1 (by omega)).mono ?_
      rintro e w4 ⟨rfl, u4, hS4⟩
      have e4 := hS4.cells
      clear e3 hS3
      go_wp2_with fail
      refine (hS4.int m.seq i2 (by simp; omega)).mono ?_
      rintro e w5 ⟨rfl, u5, hS5⟩
      have e5 := hS5.cells
      clear e4 hS4
      go_wp2_with fail
      refine (hS5.int m.hops i3 (by simp; omega)).mono ?_
      rintro e w6 ⟨rfl, u6, hS6⟩
      have e6 := hS6.cells
      clear e5 hS5
      go_wp2_with fail
      refine (hS6.event m.vl m.pay va vc HF.out.2 (by simp only [List.length_append]; omega)).mono ?_
      rintro e wN ⟨rfl, uN, hSN⟩
      simp only [List.append_assoc] at hSN
      rw [← HX.out, ← HM.out] at hSN
      clear e6 hS6
      go_wp2_with fail
      refine (hTail _ _ hSN).mono ?_
      rintro e w5 ⟨rfl, hw5⟩
      subst w5
      rcases hcase with ⟨h1, h2⟩ | ⟨h1, h2⟩
      · rw [if_pos h1] at HT
        go_wp2
        go_ret2
        exact ⟨by rw [HT.out]; rfl, fin1 _ _ hSN⟩
      · rw [if_neg h1] at HT
        go_wp2
        go_ret2
        exact ⟨by rw [HT.out]; rfl, fin1 _ _ hSN⟩
    · have q1 := beq_f (show ¬ m.kind = 1 by omega)
      have q3 := beq_f (show ¬ m.kind = 3 by omega)
      have q4 := beq_t hk
      have n5 := bne_t (show ¬ m.kind = 5 by omega)
      obtain ⟨i1, i2, i3⟩ := hE (by omega)
      have d1 := hP _ i1
      have d2 := hP _ i2
      have d3 := hP _ i3
      have HX : Hid (tlB m = intB m.pub ++ (intB m.seq ++ (intB m.hops ++ (intB m.vl.length ++ (m.vl.flatMap vlB ++ txtB m.pay))))) := (by unfold tlB; rw [if_neg (by omega), if_pos (by omega), if_neg (by omega)] : tlB m = _)
      clear hk hE
      go_wp2_with fail
      refine (hS3.int m.pub i1 (by omega)).mono ?_
      rintro e w4 ⟨rfl, u4, hS4⟩
      have e4 := hS4.cells
      clear e3 hS3
      go_wp2_with fail
      refine (hS4.int m.seq i2 (by simp; omega)).mono ?_
      rintro e w5 ⟨rfl, u5, hS5⟩
      have e5 := hS5.cells
      clear e4 hS4
      go_wp2_with fail
      refine (hS5.int m.hops i3 (by simp; omega)).mono ?_
      rintro e w6 ⟨rfl, u6, hS6⟩
      have e6 := hS6.cells
      clear e5 hS5
      go_wp2_with fail
      refine (hS6.event m.vl m.pay va vc HF.out.2 (by simp only [List.length_append]; omega)).mono ?_
      rintro e wN ⟨rfl, uN, hSN⟩
      simp only [List.append_assoc] at hSN
      rw [← HX.out, ← HM.out] at hSN
      clear e6 hS6
      go_wp2_with fail
      refine (hTail _ _ hSN).mono ?_
      rintro e w5 ⟨rfl, hw5⟩
      subst w5
      rcases hcase with ⟨h1, h2⟩ | ⟨h1, h2⟩
      · rw [if_pos h1] at HT
        go_wp2
        go_ret2
        exact ⟨by rw [HT.out]; rfl, fin1 _ _ hSN⟩
      · rw [if_neg h1] at HT
        go_wp2
        go_ret2
        exact ⟨by rw [HT.out]; rfl, fin1 _ _ hSN⟩
  · have HT : Hid (byR m = (ByteArray.empty, chk m)) := (by unfold byR; rw [if_neg hc] : byR m = _)
    rw [HT.out]
    have hce := cdV_ne _ hc
    rw [hce] at hck ⊢
    unfold Mg.val at *
    go_enter Tryd.func6, Tryd.ntmps6
    go_wp2_with (go_at_call 11; refine (hck _ hg hvn hfn).mono ?_; rintro e w1 ⟨rfl, hb⟩)
    go_ret2
    exact ⟨rfl, ((Below.refl _ _).alloc (Nat.le_refl _) _).trans (hb.mono (by simp))⟩
end Go.Proofs.YtakfinccoffplaaDoor
