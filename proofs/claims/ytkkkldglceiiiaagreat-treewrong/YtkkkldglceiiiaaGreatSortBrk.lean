/- slices' breakPatterns at places: what it makes of a row. -/
import Derived.Test.YtkkkldglceiiiaaGreatSortBits
namespace Go.Proofs.YtkkkldglceiiiaaGreat
open Go.ChangeShapes Go.WideShapes Go.ChangeAt Go.RowKit
open Go.Sort (swp ltInt bitsLen xorNext xorNextN breakStep)
set_option linter.unusedVariables false

theorem RK.trans_new {w v u : World} {blk p : Nat} (h : RK w v blk) (k : RK v u p) (hp : w.heap.size ≤ p) : RK w u blk :=
  ⟨k.os.trans h.os, k.tape.trans h.tape, k.output.trans h.output, Nat.le_trans h.size k.size, fun i hi hn => (k.block i (Nat.lt_of_lt_of_le hi h.size) (by omega)).trans (h.block i hi hn)⟩
theorem Rnd.carry {w v : World} {blk p X : Nat} (h : Rnd w p X) (hK : RK w v blk) (hp : p ≠ blk) : Rnd v p X := by
  have hs : p < w.heap.size := by
    rcases Nat.lt_or_ge p w.heap.size with q | q
    · exact q
    · have := h.1; simp [World.cell?, Array.getElem?_eq_none q] at this
  have e := hK.block p hs hp
  exact ⟨by rw [← h.1]; simp only [World.cell?, e], by rw [← h.2]; simp only [World.frozen?, e]⟩
theorem rnd_new (w : World) (X : Nat) (t : TypeId) : Rnd (w.alloc (.cells #[.int .u64 X] t)) w.heap.size X :=
  ⟨by simp [World.cell?_alloc_new], by simp [World.frozen?_alloc_new]⟩
theorem RK.alloc (w : World) (blk : Nat) (o : Obj) : RK w (w.alloc o) blk :=
  ⟨rfl, rfl, rfl, by simp, fun k hk _ => Below.heap_alloc w o k hk⟩

def brk (a L M I0 : Nat) (d : Array Int) : Nat → UInt64 × Array Int
  | 0 => (UInt64.ofNat L, d)
  | t + 1 => breakStep a L M (brk a L M I0 d t) (I0 + t)

theorem brk_whole (d : Array Int) (a b : Nat) (h : 8 ≤ b - a) : Sort.breakPatterns d a b = (brk a (b - a) (1 <<< bitsLen (b - a)) (a + (b - a) / 4 * 2 - 1) d 3).2 := by
  unfold Sort.breakPatterns; dsimp only; rw [if_pos h]; rfl

set_option maxRecDepth 10000 in
theorem pow_le : ∀ n, n < 64 → 1 ≤ 1 <<< bitsLen n ∧ 1 <<< bitsLen n ≤ 64 ∧ (n = 0 ∨ 1 <<< bitsLen n ≤ 2 * n) := by decide

theorem break_any (blk off cap a b : Nat) (d : Array Int) (w : World) (hR : Row w blk off d) (hab : a + 12 < b) (hb : b ≤ d.size) (hblk : blk < w.heap.size) (hsz : d.size < 64) :
    Calls Tryz.prog 60 #[.slice (some ⟨blk, off, none⟩) d.size cap, .int .i64 a, .int .i64 b] w fun e w' =>
      e = .returned (.tuple #[]) ∧ RK w w' blk ∧ Row w' blk off (Sort.breakPatterns d a b) := by
  have HR : Hid (Row w blk off d) := hR
  clear hR
  obtain ⟨L, hL⟩ : ∃ L, L = b - a := ⟨_, rfl⟩
  obtain ⟨M, hM⟩ : ∃ M, M = 1 <<< bitsLen L := ⟨_, rfl⟩
  obtain ⟨I0, hI⟩ : ∃ I0, I0 = a + L / 4 * 2 - 1 := ⟨_, rfl⟩
  have hM1 : 1 ≤ M := by rw [hM]; exact (pow_le L (by omega)).1
  have hM2 : M ≤ 64 := by rw [hM]; exact (pow_le L (by omega)).2.1
  have hM3 : M ≤ 2 * L := by rw [hM]; exact (pow_le L (by omega)).2.2.resolve_left (by omega)
  have hL8 : 12 < L := by omega
  have hLs : a + L ≤ d.size := by omega
  have hI1 : I0 + 1 ≤ a + L / 4 * 2 := by omega
  have hI2 : a + L / 4 * 2 ≤ I0 + 1 := by omega
  have E : Hid (Sort.breakPatterns d a b = (brk a L M I0 d 3).2) := by show _ = _; rw [brk_whole d a b (by omega), hI, hM, hL]
  have HL : Hid (L = b - a ∧ M = 1 <<< bitsLen L ∧ I0 = a + L / 4 * 2 - 1) := ⟨hL, hM, hI⟩
  clear hM hI
  have hp : blk ≠ w.heap.size := by omega
  go_enter Tryz.func60, Tryz.ntmps60
  go_upto_region 2 with fail
  rw [show (b : Int) - a = (L : Int) by omega]
  clear hL
  go_upto_block 0 with (first
    | (go_at_call 77
       have q := fun v => pow_any L v (by omega)
       rw [← HL.out.2.1] at q
       refine (q _).mono ?_
       rintro e' w' ⟨rfl, rfl⟩))
  rw [show (a : Int) + (L : Int) / 4 * 2 - 1 = (I0 : Int) by omega]
  go_wp2_with fail
  go_loopg [9] 3 (fun k v9 wr => ∃ (t : Nat) (i : Nat), v9 = .int .i64 i ∧ i = I0 + t ∧ t ≤ 3 ∧ 3 - t = k ∧ (brk a L M I0 d t).2.size = d.size ∧ RK w wr blk ∧ Row wr blk off (brk a L M I0 d t).2 ∧ Rnd wr w.heap.size (brk a L M I0 d t).1.toNat)
  case atStart =>
    refine ⟨0, I0, rfl, rfl, by omega, rfl, rfl, RK.alloc _ _ _, HR.out.alloc _, ?_⟩
    have q : (UInt64.ofNat L).toNat = L := by rw [UInt64.toNat_ofNat']; omega
    show Rnd _ _ (UInt64.ofNat L).toNat
    rw [q]
    exact rnd_new w L _
  case round =>
    obtain ⟨t, i, rfl, hit, ht3, hgk, hse, hK, hRow, hRnd⟩ := hrel
    obtain ⟨e, he⟩ : ∃ e, e = (brk a L M I0 d t).2 := ⟨_, rfl⟩
    obtain ⟨X, hX⟩ : ∃ X, X = (brk a L M I0 d t).1.toNat := ⟨_, rfl⟩
    rw [← he] at hse hRow
    rw [← hX] at hRnd
    have hX64 : X < 18446744073709551616 := by rw [hX]; exact UInt64.toNat_lt _
    have HB : Hid (e = (brk a L M I0 d t).2 ∧ X = (brk a L M I0 d t).1.toNat) := ⟨he, hX⟩
    have H : Hid (RK w wr blk ∧ Row wr blk off e ∧ Rnd wr w.heap.size X) := ⟨hK, hRow, hRnd⟩
    clear hK hRow hRnd he hX
    by_cases ht : t < 3
    · obtain ⟨Y, hY⟩ : ∃ Y, Y = xorNextN X := ⟨_, rfl⟩
      have hY64 : Y < 18446744073709551616 := by rw [hY]; exact Sort.xorNextN_lt X hX64
      obtain ⟨o, ho⟩ : ∃ o, o = Y &&& (M - 1) := ⟨_, rfl⟩
      have hoM : o < M := by
        have q : Y &&& (M - 1) ≤ M - 1 := Nat.and_le_right
        omega
      have HO : Hid (Y = xorNextN X ∧ o = Y &&& (M - 1) ∧ bits .and .u64 (Y : Int) ((M : Int) - 1) = (o : Nat)) := ⟨hY, ho, by
        rw [show (M : Int) - 1 = ((M - 1 : Nat) : Int) by omega, and_nat _ _ hY64 (by omega), ho]⟩
      clear hY ho
      have hi1 : I0 ≤ i := by omega
      have hi2 : i ≤ I0 + 2 := by omega
      have HT : Hid (i = I0 + t) := hit
      clear hit
      go_upto_region 8 with (first
        | (go_at_call 78
           have q := next_any w.heap.size X wr H.out.2.2 hX64
           rw [← HO.out.1] at q
           refine q.mono ?_
           rintro e' w1 ⟨rfl, hK1, hR1⟩))
      rw [HO.out.2.2]
      have hK2 : RK w w1 blk := H.out.1.trans_new hK1 (Nat.le_refl _)
      have hRow2 : Row w1 blk off e := H.out.2.1.carry hK1 hp
      rw [show wrap64 (o : Int) = (o : Int) from IntWalk.wrap64_in _ (by omega)]
      have STEP : Hid (brk a L M I0 d (t + 1) = (xorNext (brk a L M I0 d t).1, swp e i (a + if o ≥ L then o - L else o)) ∧ (xorNext (brk a L M I0 d t).1).toNat = Y) := by
        have q : (xorNext (brk a L M I0 d t).1).toNat = Y := by rw [Sort.xorNext_toNat, ← HB.out.2, HO.out.1]
        refine ⟨?_, q⟩
        show breakStep a L M (brk a L M I0 d t) (I0 + t) = _
        unfold breakStep
        dsimp only
        rw [q, ← HO.out.2.1, ← HB.out.1, ← HT.out]
      have H1 : Hid (RK w w1 blk ∧ Row w1 blk off e ∧ Rnd w1 w.heap.size Y) := ⟨hK2, hRow2, by have q := hR1; exact q⟩
      obtain ⟨G, hG, hcell, hfro⟩ := hRow2.fam d.size hse
      have HG : Hid (∀ t, G t = e[t]!) := hG
      clear hK1 hR1 hK2 hRow2 hG
      by_cases hoL : (L : Int) ≤ o
      · obtain ⟨o2, ho2⟩ : ∃ o2, o2 = o - L := ⟨_, rfl⟩
        have ho3 : o2 < L := by omega
        have HO2 : Hid ((if o ≥ L then o - L else o) = o2) := by show _ = _; rw [if_pos (by omega), ho2]
        have hmid := mid_cell H1.out.2.1 i (a + o2) (by omega) (by omega) (G (a + o2)) (HG.out _)
        go_upto_region 10 with fail
        rw [show (o : Int) - L = (o2 : Int) by omega]
        clear ho2
        go_region
        all_goals go_wp2
        go_roundg (2 - t)
        case measure => omega
        case rel =>
          have st := swap_step H1.out.1 H1.out.2.1 1 i (a + o2) (by omega) (by omega) (G i) (G (a + o2)) (HG.out _) (HG.out _)
          have kk : RK w1 (((w1.drewN 1).setCell ⟨blk, off + i, none⟩ (.int .u64 (G (a + o2)))).setCell ⟨blk, off + (a + o2), none⟩ (.int .u64 (G i))) blk := ((RK.drewN _ _ _).trans (RK.setCell _ _ _ _)).trans (RK.setCell _ _ _ _)
          have cr := H1.out.2.2.carry kk (by omega)
          refine ⟨t + 1, i + 1, by go_num, by rw [HT.out]; rfl, by omega, by omega, ?_, st.1, ?_, ?_⟩
          · rw [STEP.out.1, swp_size]; exact hse
          · rw [STEP.out.1, HO2.out]; exact st.2
          · rw [STEP.out.1, STEP.out.2]; exact cr
      · have HO2 : Hid ((if o ≥ L then o - L else o) = o) := by show _ = _; rw [if_neg (by omega)]
        have hmid := mid_cell H1.out.2.1 i (a + o) (by omega) (by omega) (G (a + o)) (HG.out _)
        go_upto_region 10 with fail
        go_region
        all_goals go_wp2
        go_roundg (2 - t)
        case measure => omega
        case rel =>
          have st := swap_step H1.out.1 H1.out.2.1 1 i (a + o) (by omega) (by omega) (G i) (G (a + o)) (HG.out _) (HG.out _)
          have kk : RK w1 (((w1.drewN 1).setCell ⟨blk, off + i, none⟩ (.int .u64 (G (a + o)))).setCell ⟨blk, off + (a + o), none⟩ (.int .u64 (G i))) blk := ((RK.drewN _ _ _).trans (RK.setCell _ _ _ _)).trans (RK.setCell _ _ _ _)
          have cr := H1.out.2.2.carry kk (by omega)
          refine ⟨t + 1, i + 1, by go_num, by rw [HT.out]; rfl, by omega, by omega, ?_, st.1, ?_, ?_⟩
          · rw [STEP.out.1, swp_size]; exact hse
          · rw [STEP.out.1, HO2.out]; exact st.2
          · rw [STEP.out.1, STEP.out.2]; exact cr
    · have ht' : t = 3 := by omega
      have hi3 : i = I0 + 3 := by omega
      have hge : ¬ (i : Int) ≤ (a : Int) + L / 4 * 2 + 1 := by omega
      clear hi3 hit
      go_wp2_with fail
      go_end0
      rw [E.out]
      refine ⟨rfl, H.out.1, ?_⟩
      have q := HB.out.1
      rw [ht'] at q
      rw [← q]
      exact H.out.2.1
end Go.Proofs.YtkkkldglceiiiaaGreat
