/- tree.Tree.below. -/
import Derived.Test.YtkkkldglceiiiaaGreatTrBel
namespace Go.Proofs.YtkkkldglceiiiaaGreat
open Go.ChangeShapes Go.WideShapes Go.ChangeAt Go.RowKit Go.Deep
open Go.ChangeMaps (setBlock)
set_option linter.unusedVariables false

theorem own_shape {w : World} {B n : Nat} {v : Value} {xs : List Value} (h : w.ownsRow B 3 1 v n xs) : ∃ a c, v = .slice a n c ∧ (a = none → n = 0) := by
  rcases h.2 with ⟨hv, h0⟩ | ⟨g, cap, cur, hv, _⟩
  · exact ⟨none, 0, by rw [hv, h0], fun _ => h0⟩
  · exact ⟨_, _, hv, fun e => by cases e⟩
theorem clone_own (B : Nat) (w : World) (a : Option Addr) (n c : Nat) (l : List Int) (hr : w.ownsRow B 3 1 (.slice a n c) n (l.map cellI)) (hi : ∀ x ∈ l, i64 x) (hn : n ≤ 100000) :
    Calls Tryz.prog 43 #[.slice a n c] w fun e w' => (∃ v', e = .returned v' ∧ w'.ownsRow w.heap.size 3 1 v' n (l.map cellI)) ∧ Below w.heap.size w w' := by
  have hl : l.length = n := by have := hr.1; simpa using this
  have hin := in_of_own hr hi (by omega)
  rcases a with _ | ⟨b, o, sp⟩
  · have h0 : n = 0 := by
      rcases hr.2 with ⟨_, e⟩ | ⟨g, cap, cur, hv, _⟩
      · exact e
      · simp at hv
    refine (Tryz.slices_Clone_int_nil n c w).mono ?_
    rintro e w' ⟨rfl, rfl⟩
    have hl0 : l = [] := List.eq_nil_of_length_eq_zero (by omega)
    subst hl0; subst h0
    exact ⟨⟨_, rfl, World.ownsRow_nil _ _ _ _⟩, Below.refl _ _⟩
  · rcases hr.2 with ⟨e, _⟩ | ⟨g, cap, cur, hv, hb, hg, hnc, hmx, hsz, hcs⟩
    · cases e
    · simp at hv
      obtain ⟨⟨rfl, rfl, rfl⟩, rfl⟩ := hv
      refine (Tryz.slices_Clone_int b 0 n c l w (by omega) (by omega) (fun j hj => ?_)).mono ?_
      · obtain ⟨mb, mo, hmb, _, _, hc⟩ := hin.one (v := Value.int .i64) (fun _ => rfl) (i := j) (by omega)
        simp at hmb
        obtain ⟨rfl, rfl⟩ := hmb
        exact hc
      · rintro e w' ⟨v', rfl, h1, _, h2⟩
        rw [List.take_of_length_le (by omega)] at h1
        exact ⟨⟨v', rfl, h1⟩, h2⟩
section
variable {W wr : World} {B g r hh : Nat} {up : List (Int × Int)} {Di D : List Int} {rows : List (Int × Value)}
theorem zero_rows (w : World) : (zeroValue 30).run Tryz.prog w = .ok (.slice none 0 0) w := by kernel_rfl
theorem ask_rows (h : MpAt wr hh rows) (x : Int) : (Instr.lookup 87 (.map (some hh)) (.int .i64 x) false).run Tryz.prog wr = .ok (rowOf rows x) wr := by
  unfold rowOf
  cases hq : look rows x with
  | none => exact (run_look_none (P := Tryz.prog) h Tryz.underlying87 Tryz.underlying3 (zero_rows wr) hq).2
  | some v => exact (run_look_some (P := Tryz.prog) h Tryz.underlying87 Tryz.underlying3 hq).2
end
/-- On the way down: the row of those that were met. -/
structure Dn (W5 wr : World) (t : Tr) (D : List Int) (v : Value) (m i : Nat) (M : List Int) : Prop where
  ln : M.length = m
  mt : Met t D M i
  row : wr.ownsRow W5.heap.size 3 1 v m (M.map cellI)
  bel : Below W5.heap.size W5 wr

set_option maxRecDepth 100000 in
set_option maxHeartbeats 4000000 in
theorem below_any (t : Tr) (g : Nat) (w : World) (h : UpAt w g t.up) (hl : t.up.length ≤ 100000) (hi : ∀ k ∈ t.up.map (·.1), i64 k) (hr : lookI t.up t.root = none) :
    Calls Tryz.prog 29 #[.agg #[.int .i64 t.root, .map (some g)]] w fun e w' => e = .returned (.int .i64 (belN t)) ∧ Below w.heap.size w w' := by
  obtain ⟨i0, hif, hz0, hz1, hz2⟩ := info_of Tryz.infoInt
  obtain ⟨root, up⟩ := t
  simp only at h hl hi hr ⊢
  obtain ⟨q, hq⟩ : ∃ q, q = w.heap.size := ⟨_, rfl⟩
  obtain ⟨W, hW⟩ : ∃ W, W = w.alloc (.cells #[.int .i64 root, .map (some g)] 40) := ⟨_, rfl⟩
  have hbW : Below w.heap.size w W := by rw [hW]; exact below_one _ _
  have c0 : W.cell? ⟨q, 0, none⟩ = some (.int .i64 root) := by rw [hW, hq]; exact World.cell?_alloc_new ..
  have c1 : W.cell? ⟨q, 1, none⟩ = some (.map (some g)) := by rw [hW, hq]; simp
  have hU : UpAt W g up := h.below hbW
  have hnd : (up.map (·.1)).Nodup := by rw [← upV_keys]; exact h.1
  have HW : Hid (Below w.heap.size w W ∧ UpAt W g up) := ⟨hbW, hU⟩
  have HI : Hid ((∀ k ∈ up.map (·.1), i64 k) ∧ (up.map (·.1)).Nodup ∧ up.length ≤ 100000 ∧ lookI up root = none) := ⟨hi, hnd, hl, hr⟩
  clear h hi hnd hbW hr hU
  have hmm := @run_makeMap Tryz.prog
  obtain ⟨hh, hhh⟩ : ∃ q, q = W.heap.size := ⟨_, rfl⟩
  obtain ⟨W1, hW1⟩ : ∃ W1, W1 = W.alloc (.map #[] 0) := ⟨_, rfl⟩
  obtain ⟨o, hrun, hit⟩ := (HW.out.2.below (w' := W1) (by rw [hW1]; exact below_one _ _)).start (P := Tryz.prog) Tryz.underlying38
  obtain ⟨r, hrr⟩ : ∃ r, r = W1.heap.size := ⟨_, rfl⟩
  obtain ⟨W2, hW2⟩ : ∃ W2, W2 = W1.alloc o := ⟨_, rfl⟩
  have d1 : W1.cell? ⟨q, 1, none⟩ = some (.map (some g)) := by rw [hW1]; exact cell_grown c1 (below_one _ _)
  have dl := cell_block d1
  rw [← hW2, ← hrr] at hrun hit
  have H2 : Hid (Bw W W2 W.heap.size g r hh up [] [] []) := by
    have b2 : Below W.heap.size W W2 := by rw [hW2, hW1]; exact (below_one _ _).trans ((below_one _ _).mono (by simp))
    have hr1 : r = W.heap.size + 1 := by rw [hrr, hW1]; simp
    refine ⟨hit, b2, ⟨by omega, Nat.le_refl _, by omega⟩, ⟨by omega, ?_⟩, ?_, fun k v hv => (by cases hv), fun k v hv => (by cases hv), fun k v k' v' hv => (by cases hv), List.nodup_nil, fun k hk => (by cases hk), fun k _ => rfl⟩
    · have := HW.out.2.lt; omega
    · rw [hW2, hhh]
      refine (show MpAt W1 W.heap.size [] by rw [hW1]; exact MpAt.made W).of_block (Below.heap_alloc _ _ _ (by rw [hW1]; simp))
  clear hit
  have e0 : Hid (Below W.heap.size W W2) := H2.out.bel
  go_enter Tryz.func29, Tryz.ntmps29
  go_upto_region 1 with fail
  rw [← hW]
  try rw [← hq]
  clear hW hq
  go_upto_region 2 with fail
  rw [← hW1, ← hhh]
  clear hW1 hhh hmm hW2 hrr
  go_wp2
  clear hrun d1 dl
  go_loopg [] up.length (fun kx wr => Hid (∃ D rows, kx = up.length - D.length ∧ Bw W wr W.heap.size g r hh up D D rows))
  case atStart => exact ⟨[], [], rfl, H2.out⟩
  case round =>
    obtain ⟨D, rows, hkx, hd⟩ := hrel.out
    have HKX : Hid (_ = up.length - D.length) := hkx
    have HD : Hid (Bw W wr W.heap.size g r hh up D D rows) := hd
    clear hrel hkx hd
    rcases HD.out.next with ⟨hall, hrun⟩ | ⟨k, x, w5, hlk, hrun, hent, hb5, hkm, hkD⟩
    · have HAL : Hid (∀ k ∈ up.map (·.1), k ∈ D) := hall
      clear hall
      have f0 := cell_grown c0 HD.out.bel
      have hask := ask_rows HD.out.mp root
      have hrow := HD.out.get root
      obtain ⟨va, vc, hv, hvn⟩ := own_shape hrow
      obtain ⟨m0, hm0⟩ : ∃ m, m = (chl up D root).length := ⟨_, rfl⟩
      rw [← hm0] at hv hvn hrow
      rw [hv] at hask hrow
      have HDN : Hid (∀ x ∈ D, i64 x) := fun x hx => HI.out.1 x (HD.out.dm x hx)
      have HC : Hid _ := clone_own W.heap.size wr va m0 vc (chl up D root) hrow (fun x hx => HDN.out x (mem_chl.1 hx).1) (by have := chl_len up D root; have := HD.out.len; have := HI.out.2.2.1; omega)
      have HM0 : Hid (m0 = (chl up D root).length) := hm0
      clear hrow hv hvn hm0
      have fl := cell_block f0
      go_wp2_with fail
      refine Calls.mono HC.out ?_
      clear HC
      rintro e w6 ⟨⟨v6, rfl, hr6⟩, b6⟩
      obtain ⟨xa, xc, rfl, _⟩ := own_shape hr6
      have H6 : Hid (Dn wr w6 ⟨root, up⟩ D (.slice xa m0 xc) m0 0 (chl up D root)) := ⟨HM0.out.symm, Met.start HD.out.dn HI.out.2.2.2, hr6, b6⟩
      clear hr6 b6 hask f0 fl c0 c1 hrun
      have hm00 : m0 ≤ up.length := by have := H6.out.mt.len; have := H6.out.ln; have := HD.out.len; omega
      go_wp2
      go_loopg [6, 7] up.length (fun kx v s wz => ∃ (i m : Nat) (a : Option Addr) (c : Nat), v = .slice a m c ∧ s = .int .i64 i ∧ i ≤ m ∧ m ≤ up.length ∧ kx = up.length - i ∧ Hid (∃ M, Dn wr wz ⟨root, up⟩ D (.slice a m c) m i M))
      case atStart => exact ⟨0, m0, xa, xc, rfl, rfl, Nat.zero_le _, hm00, rfl, ⟨_, H6.out⟩⟩
      case round =>
        rename World => wz
        obtain ⟨i, m, a, c, rfl, rfl, him, hml, rfl, HB⟩ := hrel
        obtain ⟨M, hd⟩ := HB.out
        have HN : Hid (Dn wr wz ⟨root, up⟩ D (.slice a m c) m i M) := hd
        clear HB hd
        by_cases hlt : i < m
        · have hltI : (i : Int) < (m : Int) := by omega
          have hin := in_of_own HN.out.row (fun x hx => HDN.out x (HN.out.mt.has hx).1) (by omega)
          obtain ⟨mb, mo, hmb, hmlk, _, hmc⟩ := hin.one (v := Value.int .i64) (fun _ => rfl) (i := i) hlt
          subst hmb
          obtain ⟨y, hy⟩ : ∃ y, y = M.getD i 0 := ⟨_, rfl⟩
          rw [← hy] at hmc
          have HY : Hid (y = M.getD i 0) := hy
          clear hy hin
          have hmz : MpAt wz hh rows := HD.out.mp.of_block (HN.out.bel.block _ HD.out.mp.lt)
          have hask := ask_rows hmz y
          have hrow : wz.ownsRow W.heap.size 3 1 (rowOf rows y) (chl up D y).length ((chl up D y).map cellI) := row_at (HD.out.get y) (fun z hz => HN.out.bel.block _ (World.ownsRow.lt (HD.out.get y) z hz).2)
          obtain ⟨va2, vc2, hv, hvn⟩ := own_shape hrow
          obtain ⟨m2, hm2⟩ : ∃ m, m = (chl up D y).length := ⟨_, rfl⟩
          rw [← hm2] at hv hvn hrow
          rw [hv] at hask hrow
          have hstep := HN.out.mt.step HD.out.dn HI.out.2.2.2 (by rw [HN.out.ln]; exact hlt)
          rw [← HY.out] at hstep
          have HS : Hid (Met ⟨root, up⟩ D (M ++ chl up D y) (i + 1)) := hstep
          have HSR : Hid (Src Tryz.prog 1 30 (.slice va2 m2 vc2) m2 ((chl up D y).map cellI) wz) :=
            src_ints (in_of_own hrow (fun x hx => HDN.out x (mem_chl.1 hx).1) (by have := chl_len up D y; have := HD.out.len; omega)) hvn
          have HM2 : Hid (m2 = (chl up D y).length) := hm2
          have hmm2 : m + m2 ≤ up.length := by
            have := HS.out.len; rw [List.length_append, HN.out.ln, ← hm2] at this; have := HD.out.len; omega
          have HSz : Hid (wr.heap.size ≤ wz.heap.size) := HN.out.bel.size
          have HA : Hid (wz.ownsRow wr.heap.size 3 1 (.slice (some ⟨mb, mo, none⟩) m c) m (M.map cellI)) := HN.out.row
          clear hrow hv hvn hm2 hstep hmz
          go_wp2_with (at_builtin; go_loud (refine wpList_own_append _ rfl _ _ 30 30 rfl wr.heap.size 3 i0 _ 8 Tryz.underlying30 hif hz0 hz1 hz2 rfl _ _ _ rfl HA.out _ m2 _ rfl HSR.out (by unfold maxLen; omega) (by omega) (by have := HSz.out; simp; omega) ?_))
          intro v' w7 ha
          obtain ⟨x7, k7, rfl⟩ := ha.shape
          have H7 : Hid (Dn wr w7 ⟨root, up⟩ D (.slice x7 (m + m2) k7) (m + m2) (i + 1) (M ++ chl up D y)) := by
            refine ⟨by rw [List.length_append, HN.out.ln, HM2.out], HS.out, by rw [List.map_append]; exact ha.row, HN.out.bel.grown ha.grown HN.out.bel.size (fun k hk => (World.ownsRow.lt HA.out k hk).1)⟩
          clear ha HA HSR hask hmc hmlk
          go_wp2
          go_roundg (up.length - (i + 1))
          case measure => omega
          case rel => exact ⟨i + 1, m + m2, x7, k7, rfl, by go_num, by omega, hmm2, rfl, ⟨_, H7.out⟩⟩
        · obtain rfl : i = m := by omega
          have hfin := (show Met ⟨root, up⟩ D M M.length by have := HN.out.mt; rw [HN.out.ln]; exact this).num HI.out.2.1 HI.out.2.2.2 (fun x => ⟨HD.out.dm x, HAL.out x⟩)
          rw [HN.out.ln] at hfin
          have HF : Hid (i = belN ⟨root, up⟩) := hfin
          have HE : Hid (Below w.heap.size w wz) := by
            have b := HW.out.1.trans (HD.out.bel.mono HW.out.1.size)
            exact b.trans (HN.out.bel.mono b.size)
          clear hfin
          go_wp2
          go_ret
          exact ⟨congrArg (fun k : Nat => Ending.returned (.int .i64 (k : Int))) HF.out, HE.out⟩
    · have hask := ask_rows hb5.mp x
      have hrow := hb5.get x
      obtain ⟨va, vc, hv, hvn⟩ := own_shape hrow
      obtain ⟨m0, hm0⟩ : ∃ m, m = (chl up D x).length := ⟨_, rfl⟩
      have hm1 : m0 ≤ 100000 := by have := chl_len up D x; have := HD.out.len; omega
      rw [← hm0] at hv hvn hrow
      have hrow2 : (w5.alloc (.cells #[.int .i64 k] 3)).ownsRow W.heap.size 3 1 (rowOf rows x) m0 ((chl up D x).map cellI) := row_at hrow (fun z hz => Below.heap_alloc _ _ _ (World.ownsRow.lt hrow z hz).2)
      have HV : Hid (rowOf rows x = .slice va m0 vc ∧ m0 = (chl up D x).length) := ⟨hv, hm0⟩
      rw [hv] at hask hrow2
      have HA : Hid _ := hrow2
      have H5 : Hid (Bw W w5 W.heap.size g r hh up (D ++ [k]) D rows ∧ lookI up k = some x ∧ k ∈ up.map (·.1) ∧ k ∉ D) := ⟨hb5, hlk, hkm, hkD⟩
      have HSz : Hid (W.heap.size ≤ w5.heap.size) := hb5.bel.size
      clear hrow hrow2 hv hvn hm0 hb5 hlk hkm hkD
      go_wp2_with (at_builtin; go_loud (refine wpList_own_append _ rfl _ _ 30 30 rfl W.heap.size 3 i0 _ 8 Tryz.underlying30 hif hz0 hz1 hz2 rfl _ _ _ rfl HA.out _ 1 [cellI k] rfl (src_oneT w5 k) (by unfold maxLen; omega) (by omega) (by have := HSz.out; simp; omega) ?_))
      intro v' w6 ha
      obtain ⟨x6, k6, rfl⟩ := ha.shape
      obtain ⟨w7, hupd, hb7⟩ := H5.out.1.take H5.out.2.1 H5.out.2.2.1 H5.out.2.2.2 _ (by rw [HV.out.1, ← HV.out.2]; exact ha)
      have H7 : Hid (∃ rows', Bw W w7 W.heap.size g r hh up (D ++ [k]) (D ++ [k]) rows') := ⟨_, hb7⟩
      clear ha hb7 HA hask hrun hent
      go_wp2
      go_roundg (up.length - (D.length + 1))
      case measure => have := H5.out.1.lt H5.out.2.2.1 H5.out.2.2.2; have := HKX.out; omega
      case rel => exact (let ⟨rows', h⟩ := H7.out; ⟨D ++ [k], rows', by simp, h⟩ : ∃ D' rows', up.length - (D.length + 1) = up.length - D'.length ∧ Bw W w7 W.heap.size g r hh up D' D' rows')
end Go.Proofs.YtkkkldglceiiiaaGreat
