/- slices.Concat of two lists of ints, of whatever length; slices.Index at ints. -/
import Derived.Test.YtmajlldfiiokoaaGreatDoorJoinChMap
import Derived.Test.YtmajlldfiiokoaaGreatDoorIdOf2
import Derived.Test.YtmajlldfiiokoaaGreatDoorRing
import Derived.Test.YtmajlldfiiokoaaGreatDoorJoinIdOwn
import Derived.Test.YtmajlldfiiokoaaGreatDoorJoinTrMath
import Derived.Test.YtmajlldfiiokoaaGreatDoorJoinPrInts
set_option linter.unnecessarySimpa false
namespace Go.Proofs.YtmajlldfiiokoaaGreatDoor
open Go.ChangeShapes Go.WideShapes Go.ChangeAt Go.RowKit Go.Deep
set_option linter.unusedVariables false

/-- append(nil, make([]int, m)...). -/
theorem run_growN (m : Nat) (hm1 : 3 ≤ m) (hm2 : m ≤ 40) (w : World) (ty : TypeId) :
    (Builtin.append_ #[24, 3] ty #[.slice none 0 0, .int .i64 (m : Int)]).run Tryz.prog w =
      .ok (.slice (some ⟨w.heap.size, 0, none⟩) m (grownCap w m 0 3)) (w.drew.alloc (.cells (Builtin.zeroCells #[.int .i64 0] m ++ Builtin.zeroCells #[.int .i64 0] (grownCap w m 0 3 - m)) 3)) := by
  obtain ⟨i0, hi, hz0, hz1, hz2⟩ := info_of Tryz.infoInt
  have hs : IntKind.i64.wrap (m : Int) = (m : Int) := (by simp [IntKind.wrap, IntKind.bits, IntKind.signed]; omega)
  have hs2 : ¬ ((m : Int) < 0) := by omega
  have hs3 : ¬ (281474976710656 < (m : Int) * 8) := by omega
  have hs4 : ¬ m = 0 := by omega
  have hs5 : 0 < m := by omega
  simp [Builtin.append_, run_underlying Tryz.underlying24, run_underlying Tryz.underlying3, sizeOf, typeInfo, zeroValue, hi, hz0, hz1, hz2, Question.forced, newRow, grownCap, Builtin.firstCells, asInt, asIntOf, hs, hs2, hs3, hs4, hs5, Builtin.nextslicecap, Value.cells, askRoom]
  rw [if_neg (by omega), if_neg (by omega)]

set_option maxRecDepth 100000 in
set_option maxHeartbeats 1000000 in
theorem growN_r (m : Nat) (hm1 : 3 ≤ m) (hm2 : m ≤ 40) (w : World) :
    Calls Tryz.prog 126 #[.slice none 0 0, .int .i64 (m : Int)] w fun e w' => ∃ v, e = .returned v ∧ w'.ownsRow w.heap.size 3 1 v 0 [] ∧ Below w.heap.size w w' := by
  have hc1 : m ≤ grownCap w m 0 3 := grownCap_ge w m 0 3
  have hc2 : grownCap w m 0 3 ≤ maxLen := grownCap_le_maxLen w m 0 3 (by unfold maxLen; omega)
  have hr := run_growN m hm1 hm2 w
  obtain ⟨W, hW⟩ : ∃ W, W = w.drew.alloc (.cells (Builtin.zeroCells #[.int .i64 0] m ++ Builtin.zeroCells #[.int .i64 0] (grownCap w m 0 3 - m)) 3) := ⟨_, rfl⟩
  have HB : Hid (Below w.heap.size w W) := by rw [hW]; exact (Below.refl _ _ : Below w.heap.size w w).trans ⟨rfl, rfl, rfl, by simp, fun k hk => Below.heap_alloc w.drew _ k hk⟩
  have HG : Hid (W.heap[w.heap.size]? = some (.cells (Builtin.zeroCells #[.int .i64 0] m ++ Builtin.zeroCells #[.int .i64 0] (grownCap w m 0 3 - m)) 3 (0, 0))) := by rw [hW]; exact heap_alloc_new w.drew _
  generalize grownCap w m 0 3 = c at *
  rw [← hW] at hr
  have HR : Hid _ := hr
  clear hr hW
  unfold maxLen at hc2
  have hc3 : 0 ≤ c := by omega
  go_enter Tryz.func126, Tryz.ntmps126
  go_wp2_with (at_builtin; refine wpList_append_run rfl _ _ 24 3 rfl _ _ rfl rfl _ _ (HR.out _) ?_)
  go_ret
  refine ⟨_, rfl, ?_, HB.out⟩
  exact ⟨rfl, .inr ⟨w.heap.size, c, _, rfl, Nat.le_refl _, HG.out, by omega, by unfold maxLen; omega, by simp [size_zeroCells]; omega, rfl⟩⟩

set_option maxRecDepth 100000 in
set_option maxHeartbeats 2000000 in
/-- Concat of two lists, some more in all. -/
theorem concat_n (m : Nat) (hm1 : 3 ≤ m) (hm2 : m ≤ 40) (g : Nat) (a1 : Option Addr) (n1 c1 : Nat) (l1 : List Int) (a2 : Option Addr) (n2 c2 : Nat) (l2 : List Int) (w : World) (h0 : w.cell? ⟨g, 0, none⟩ = some (.slice a1 n1 c1)) (h1 : w.cell? ⟨g, 1, none⟩ = some (.slice a2 n2 c2))
    (hl1 : InIn w a1 n1 l1) (hl2 : InIn w a2 n2 l2) (hn1 : a1 = none → n1 = 0) (hn2 : a2 = none → n2 = 0) (h3 : n1 + n2 = m) :
    Calls Tryz.prog 80 #[.slice (some ⟨g, 0, none⟩) 2 2] w fun e w' => ∃ a c, e = .returned (.slice a m c) ∧ InIn w' a m (l1 ++ l2) ∧ m ≤ c ∧ c ≤ 9223372036854775807 ∧ a ≠ none ∧ (∀ x, a = some x → w.heap.size ≤ x.block) ∧ Below w.heap.size w w' := by
  obtain ⟨i0, hi, hz0, hz1, hz2⟩ := info_of Tryz.infoInt
  have HL : Hid (InIn w a1 n1 l1 ∧ InIn w a2 n2 l2 ∧ (a1 = none → n1 = 0) ∧ (a2 = none → n2 = 0)) := ⟨hl1, hl2, hn1, hn2⟩
  have hg : g < w.heap.size := cell_block h0
  have q1 : (n1 : Int) + (n2 : Int) = (m : Int) := by omega
  have q2 : ¬ (n1 : Int) < 0 := by omega
  have q3 : ¬ (n1 : Int) + (n2 : Int) < 0 := by omega
  have HC : Hid (w.cell? ⟨g, 0, none⟩ = some (.slice a1 n1 c1) ∧ w.cell? ⟨g, 1, none⟩ = some (.slice a2 n2 c2)) := ⟨h0, h1⟩
  have hb1 : (n1 : Int) ≤ 40 := by omega
  have hb2 : (n2 : Int) ≤ 40 := by omega
  clear hl1 hl2 hn1 hn2
  go_enter Tryz.func80, Tryz.ntmps80
  go_wp2
  refine wp_loop_rounds 3 ?_
  rw [rounds_succ]
  go_wp2
  rw [rounds_succ]
  go_wp2
  rw [rounds_succ]
  go_wp2_with fail
  refine (growN_r m hm1 hm2 _).mono ?_
  rintro e w2 ⟨v, rfl, hv, hb⟩
  have HB2 : Hid (Below w.heap.size w w2) := hb
  have HV : Hid (w2.ownsRow w.heap.size 3 1 v 0 []) := hv
  have x0 := cell_grown HC.out.1 hb
  have x1 := cell_grown HC.out.2 hb
  have z2 : g < w2.heap.size := by have := hb.size; omega
  have HS1 : Hid (Src Tryz.prog 1 24 (.slice a1 n1 c1) n1 (l1.map cellI) w2) := src_ints (HL.out.1.below (Nat.le_refl _) hb) HL.out.2.2.1
  clear hv hb h0 h1
  go_wp2
  refine wp_loop_rounds 3 ?_
  rw [rounds_succ]
  go_wp2_with (at_builtin; refine wpList_own_append _ rfl _ _ 24 24 rfl w.heap.size 3 i0 _ 8 Tryz.underlying24 hi hz0 hz1 hz2 rfl _ _ _ rfl HV.out _ n1 _ rfl HS1.out ?c3 ?c4 ?c5 ?_)
  case c3 => unfold maxLen; omega
  case c4 => omega
  case c5 => exact HB2.out.size
  intro v3 w3 ha
  have hgr := ha.grown
  have HB3 : Hid (Below w.heap.size w w3) := HB2.out.trans ⟨hgr.os, hgr.tape, hgr.output, hgr.size, fun k hk => hgr.block k (by have := HB2.out.size; omega) (fun e => by have := (World.ownsRow.lt HV.out k e.symm).1; omega)⟩
  have HV3 : Hid (w3.ownsRow w.heap.size 3 1 v3 n1 (l1.map cellI)) := (show w3.ownsRow w.heap.size 3 1 v3 n1 (l1.map cellI) by simpa using ha.row)
  clear ha hgr x0 x1
  have x0 := cell_grown HC.out.1 HB3.out
  have x1 := cell_grown HC.out.2 HB3.out
  have z3 : g < w3.heap.size := by have := HB3.out.size; omega
  have HS2 : Hid (Src Tryz.prog 1 24 (.slice a2 n2 c2) n2 (l2.map cellI) w3) := src_ints (HL.out.2.1.below (Nat.le_refl _) HB3.out) HL.out.2.2.2
  go_wp2
  rw [rounds_succ]
  go_wp2_with (at_builtin; refine wpList_own_append _ rfl _ _ 24 24 rfl w.heap.size 3 i0 _ 8 Tryz.underlying24 hi hz0 hz1 hz2 rfl _ _ _ rfl HV3.out _ n2 _ rfl HS2.out ?d3 ?d4 ?d5 ?_)
  case d3 => unfold maxLen; omega
  case d4 => omega
  case d5 => exact HB3.out.size
  intro v4 w4 ha
  have hgr := ha.grown
  have HB4 : Hid (Below w.heap.size w w4) := HB3.out.trans ⟨hgr.os, hgr.tape, hgr.output, hgr.size, fun k hk => hgr.block k (by have := HB3.out.size; omega) (fun e => by have := (World.ownsRow.lt HV3.out k e.symm).1; omega)⟩
  obtain ⟨a4, c4, hv4⟩ := ha.shape
  subst hv4
  have HV4 : Hid (w4.ownsRow w.heap.size 3 1 (.slice a4 m c4) m ((l1 ++ l2).map cellI)) := (show w4.ownsRow w.heap.size 3 1 (.slice a4 m c4) m ((l1 ++ l2).map cellI) by simpa using ha.row)
  clear ha hgr
  go_wp2
  rw [rounds_succ]
  go_wp2
  go_ret
  have hk := own_caps HV4.out
  refine ⟨a4, c4, rfl, in_of_own HV4.out (fun x hx => ?_) (by omega), hk.1, hk.2, fun e => ?_, own_new HV4.out, HB4.out⟩
  · rcases List.mem_append.1 hx with h | h
    · exact ints_ok HL.out.1 x h
    · exact ints_ok HL.out.2.1 x h
  · subst e
    rcases HV4.out.2 with ⟨_, e⟩ | ⟨g, cap, cur, hv, _⟩
    · omega
    · cases hv
theorem index_i (a : Option Addr) (n cap : Nat) (l : List Int) (x : Int) (k : Nat) (w : World) (h : InIn w a n l) (hk : k < n) (hx : l.getD k 0 = x) (hmin : ∀ j, j < k → l.getD j 0 ≠ x) :
    Calls Tryz.prog 79 #[.slice a n cap, .int .i64 x] w fun e w' => e = .returned (.int .i64 k) ∧ w' = w := by
  have HI : Hid (InIn w a n l) := h
  have HX : Hid (l.getD k 0 = x ∧ ∀ j, j < k → l.getD j 0 ≠ x) := ⟨hx, hmin⟩
  have hm := h.2.1
  clear h hx hmin
  go_enter Tryz.func79, Tryz.ntmps79
  go_wp2
  go_loop [8] (fun s => ∃ j : Nat, s = .int .i64 j ∧ j ≤ k) (fun s => n - (intOf s).toNat)
  case atStart => exact ⟨0, rfl, Nat.zero_le _⟩
  case round =>
    obtain ⟨j, rfl, hj⟩ := hrel
    have hlt : j < n := by omega
    obtain ⟨b, o, rfl, hb, _, hc⟩ := HI.out.one (v := Value.int .i64) (fun _ => rfl) (i := j) hlt
    by_cases e : j = k
    · subst e
      rw [HX.out.1] at hc
      have ee : (x == x) = true := by simp
      go_wp2
      go_ret
      exact ⟨rfl, rfl⟩
    · have hne := HX.out.2 j (by omega)
      generalize l.getD j 0 = y at hc hne
      have ee : (x == y) = false := by simpa using Ne.symm hne
      go_wp2
      go_round
      case rel => exact ⟨j + 1, by go_num, by omega⟩
      case measure => simp [intOf]; omega
theorem index_none (a : Option Addr) (n cap : Nat) (l : List Int) (x : Int) (w : World) (h : InIn w a n l) (hmin : ∀ j, j < n → l.getD j 0 ≠ x) :
    Calls Tryz.prog 79 #[.slice a n cap, .int .i64 x] w fun e w' => e = .returned (.int .i64 (-1)) ∧ w' = w := by
  have HI : Hid (InIn w a n l) := h
  have HX : Hid (∀ j, j < n → l.getD j 0 ≠ x) := hmin
  have hm := h.2.1
  clear h hmin
  go_enter Tryz.func79, Tryz.ntmps79
  go_wp2
  go_loop [8] (fun s => ∃ j : Nat, s = .int .i64 j ∧ j ≤ n) (fun s => n - (intOf s).toNat)
  case atStart => exact ⟨0, rfl, Nat.zero_le _⟩
  case round =>
    obtain ⟨j, rfl, hj⟩ := hrel
    by_cases hlt : j < n
    · obtain ⟨b, o, rfl, hb, _, hc⟩ := HI.out.one (v := Value.int .i64) (fun _ => rfl) (i := j) hlt
      have hne := HX.out j hlt
      generalize l.getD j 0 = y at hc hne
      have ee : (x == y) = false := by simpa using Ne.symm hne
      go_wp2
      go_round
      case rel => exact ⟨j + 1, by go_num, by omega⟩
      case measure => simp [intOf]; omega
    · go_wp2
      go_ret
      exact ⟨rfl, rfl⟩
end Go.Proofs.YtmajlldfiiokoaaGreatDoor

/- What an address should know; does each one know it? -/
namespace Go.Proofs.YtmajlldfiiokoaaGreatDoor
open Go.ChangeShapes Go.WideShapes Go.ChangeAt Go.RowKit Go.Deep
set_option linter.unusedVariables false

theorem sl_from (g n c i : Nat) (W : World) (hi : i < n) (hc : n ≤ c) (hq : ¬ c = i + 1) : (Instr.slice 24 (.slice (some ⟨g, 0, none⟩) n c) (some (.int .i64 ((i : Int) + 1))) none none).run Tryz.prog W = .ok (.slice (some ⟨g, i + 1, none⟩) (n - (i + 1)) (c - (i + 1))) W := by
  simp [go_sem, Tryz.underlying24]
  rw [if_pos ⟨by omega, by omega⟩, if_neg hq]
theorem sl_end (g n : Nat) (i : Nat) (W : World) (hi : n = i + 1) : (Instr.slice 24 (.slice (some ⟨g, 0, none⟩) n n) (some (.int .i64 ((i : Int) + 1))) none none).run Tryz.prog W = .ok (.slice (some ⟨g, 0, none⟩) 0 0) W := by
  subst hi
  simp [go_sem, Tryz.underlying24]
  omega
theorem sl_to (g n c i : Nat) (W : World) (hi : i < n) (hc : n ≤ c) : (Instr.slice 24 (.slice (some ⟨g, 0, none⟩) n c) none (some (.int .i64 (i : Int))) none).run Tryz.prog W = .ok (.slice (some ⟨g, 0, none⟩) i c) W := by
  simp [go_sem, Tryz.underlying24]
  omega
theorem sl_to3 (g o n c : Nat) (W : World) (hn : 3 ≤ n) (hc : n ≤ c) : (Instr.slice 24 (.slice (some ⟨g, o, none⟩) n c) none (some (.int .i64 3)) none).run Tryz.prog W = .ok (.slice (some ⟨g, o, none⟩) 3 c) W := by
  simp [go_sem, Tryz.underlying24]
  omega
theorem know_some {R : Rg} {n : Int} {p : Pe} (h : R.kn n = some p) : R.know n = p := by simp [Rg.know, h]
theorem lives_none {R : Rg} {n : Int} (h : R.kn n = none) : R.lives n = false := by simp [Rg.lives, h]
theorem zero_pe0 (w : World) : (zeroValue 80).run Tryz.prog w = .ok (.agg #[.int .u64 0, .int .i64 0, .slice none 0 0]) w := by kernel_rfl

set_option maxRecDepth 100000 in
set_option maxHeartbeats 2000000 in
theorem cpeer_r (R : Rg) (C : List Int) (g c d n i : Nat) (b : Option Addr) (w : World) (hm : InIn w (some ⟨g, 0, none⟩) n C) (hc1 : n ≤ c) (hc2 : c ≤ 9223372036854775807) (hp : IdIn w b n (C.map R.idOf)) (h4 : 4 ≤ n) (h32 : n ≤ 32) (hi : i < n) (hmin : ∀ j, j < i → C.getD j 0 ≠ C.getD i 0) :
    Calls Tryz.prog 35 #[.agg #[.slice (some ⟨g, 0, none⟩) n c, .slice b n d], .int .i64 (C.getD i 0)] w fun e w' => ∃ a2 c2, e = .returned (.tuple #[.agg #[.int .u64 (idPe R C i).id, .int .i64 (idPe R C i).pred, .slice a2 3 c2], .bool true]) ∧ InIn w' a2 3 (idPe R C i).succ ∧ 3 ≤ c2 ∧ Below w.heap.size w w' := by
  have hlen : C.length = n := hm.1
  obtain ⟨W1, hW1⟩ : ∃ W1, W1 = (w.alloc (.cells #[.slice (some ⟨g, 0, none⟩) n c, .slice b n d] 50)).alloc (.cells #[.int .u64 0, .int .i64 0, .slice none 0 0] 80) := ⟨_, rfl⟩
  have b1 : Below w.heap.size w W1 := by rw [hW1]; exact (below_one _ _).trans ((below_one _ _).mono (by simp))
  have e0 : W1.heap[w.heap.size]? = some (.cells #[.slice (some ⟨g, 0, none⟩) n c, .slice b n d] 50 (0, 0)) := by rw [hW1, Below.heap_alloc _ _ _ (by simp)]; exact heap_alloc_new w _
  have e1 : W1.heap[w.heap.size + 1]? = some (.cells #[.int .u64 0, .int .i64 0, .slice none 0 0] 80 (0, 0)) := by rw [hW1]; simpa using heap_alloc_new (w.alloc (.cells #[.slice (some ⟨g, 0, none⟩) n c, .slice b n d] 50)) (.cells #[.int .u64 0, .int .i64 0, .slice none 0 0] 80)
  have s1 : W1.heap.size = w.heap.size + 2 := by rw [hW1]; simp
  have x0 : W1.cell? ⟨w.heap.size, 0, none⟩ = some (.slice (some ⟨g, 0, none⟩) n c) := by simp [World.cell?, e0]
  have x1 : W1.cell? ⟨w.heap.size, 1, none⟩ = some (.slice b n d) := by simp [World.cell?, e0]
  have xz := cell_block x0
  have HS1 : Hid (W1.heap.size = w.heap.size + 2) := s1
  clear s1
  have HM : Hid (InIn W1 (some ⟨g, 0, none⟩) n C ∧ IdIn W1 b n (C.map R.idOf) ∧ Below w.heap.size w W1) := ⟨hm.below (Nat.le_refl _) b1, hp.below (Nat.le_refl _) b1, b1⟩
  have HX : Hid _ := hmin
  obtain ⟨x, hx⟩ : ∃ x, C.getD i 0 = x := ⟨_, rfl⟩
  have HXE : Hid (C.getD i 0 = x) := hx
  have IDX : Hid _ := index_i (some ⟨g, 0, none⟩) n c C x i W1 HM.out.1 hi hx (fun j hj => by rw [← hx]; exact hmin j hj)
  rw [hx]
  obtain ⟨pd, hpd⟩ : ∃ pd : Nat, pd = (i + n - 1) % n := ⟨_, rfl⟩
  have hpl : pd < n := by rw [hpd]; exact Nat.mod_lt _ (by omega)
  have epm : ((i : Int) + (n : Int) - 1) % (n : Int) = (pd : Int) := by
    rw [hpd, Int.natCast_emod, show ((i + n - 1 : Nat) : Int) = (i : Int) + (n : Int) - 1 by omega]
  have HPD : Hid (pd = (i + n - 1) % n) := hpd
  have HE : Hid (W1.heap[w.heap.size]? = some (.cells #[.slice (some ⟨g, 0, none⟩) n c, .slice b n d] 50 (0, 0)) ∧ W1.heap[w.heap.size + 1]? = some (.cells #[.int .u64 0, .int .i64 0, .slice none 0 0] 80 (0, 0))) := ⟨e0, e1⟩
  clear hm hp b1 hmin hx hpd e0 e1
  go_enter Tryz.func35, Tryz.ntmps35
  go_upto_region 1 with fail
  rw [← hW1]
  clear hW1
  go_wp2_with fail
  refine Calls.mono IDX.out ?_
  rintro e w' ⟨rfl, hw'⟩
  subst w'
  have hdi : decide ((i : Int) < 0) = false := by simp
  go_upto_region 5 with fail
  rw [epm]
  clear epm
  have ew : IntKind.i64.wrap ((i : Int) + 1) = (i : Int) + 1 := by simp [IntKind.wrap, IntKind.bits, IntKind.signed]; omega
  go_cut [8] (fun v wx => ∃ a6 c6, v = .slice a6 (n - 1) c6 ∧ Hid (InIn wx a6 (n - 1) (C.drop (i + 1) ++ C.take i) ∧ n - 1 ≤ c6 ∧ c6 ≤ 9223372036854775807 ∧ (∀ x, a6 = some x → W1.heap.size ≤ x.block) ∧ Below W1.heap.size W1 wx))
  case first =>
    by_cases hq : c = i + 1
    · have hni : n = i + 1 := by omega
      obtain ⟨W6, hW6⟩ : ∃ W6, W6 = (W1.alloc (.cells #[.slice (some ⟨g, 0, none⟩) 0 0, .slice (some ⟨g, 0, none⟩) i c] 24)).drew := ⟨_, rfl⟩
      have b6 : Hid (Below W1.heap.size W1 W6) := by rw [hW6]; exact below1d _ _
      have HCAT : Hid _ := concat_n (n - 1) (by omega) (by omega) W1.heap.size (some ⟨g, 0, none⟩) 0 0 (C.drop (i + 1)) (some ⟨g, 0, none⟩) i c (C.take i) W6 (by rw [hW6]; simp) (by rw [hW6]; simp) (InRow.below (by rw [List.drop_of_length_le (by omega)]; exact in_empty) (Nat.le_refl _) b6.out) (InRow.below (HM.out.1.take i (by omega)) (Nat.le_refl _) b6.out) (by simp) (by simp) (by omega)
      have hcn : c = n := by omega
      have sl1 : ∀ W, _ := fun W => sl_end g n i W hni
      have sl2 : ∀ W, _ := fun W => sl_to g n n i W hi (Nat.le_refl _)
      subst hcn
      clear hni hq
      go_region_with ((go_at_call 80; rw [← hW6]; refine Calls.mono HCAT.out ?_; rintro e w6 ⟨a6, c6, rfl, h6, hc6, hd6, hn6, hf6, hb6⟩))
      all_goals
        go_wp2
        go_meet
        exact ⟨a6, c6, rfl, (⟨h6, hc6, hd6, fun x hx => Nat.le_trans b6.out.size (hf6 x hx), b6.out.trans (hb6.mono b6.out.size)⟩ : _ ∧ _ ∧ _ ∧ _ ∧ _)⟩
    · have sl1 : ∀ W, _ := fun W => sl_from g n c i W hi hc1 hq
      have sl2 : ∀ W, _ := fun W => sl_to g n c i W hi hc1
      clear hq
      obtain ⟨W6, hW6⟩ : ∃ W6, W6 = (W1.alloc (.cells #[.slice (some ⟨g, i + 1, none⟩) (n - (i + 1)) (c - (i + 1)), .slice (some ⟨g, 0, none⟩) i c] 24)).drew := ⟨_, rfl⟩
      have b6 : Hid (Below W1.heap.size W1 W6) := by rw [hW6]; exact below1d _ _
      have HCAT : Hid _ := concat_n (n - 1) (by omega) (by omega) W1.heap.size (some ⟨g, i + 1, none⟩) (n - (i + 1)) (c - (i + 1)) (C.drop (i + 1)) (some ⟨g, 0, none⟩) i c (C.take i) W6 (by rw [hW6]; simp) (by rw [hW6]; simp) (InRow.below (in_drop HM.out.1 (i + 1) (n - (i + 1)) (by omega)) (Nat.le_refl _) b6.out) (InRow.below (HM.out.1.take i (by omega)) (Nat.le_refl _) b6.out) (by simp) (by simp) (by omega)
      go_region_with ((go_at_call 80; rw [← hW6]; refine Calls.mono HCAT.out ?_; rintro e w6 ⟨a6, c6, rfl, h6, hc6, hd6, hn6, hf6, hb6⟩))
      all_goals
        go_wp2
        go_meet
        exact ⟨a6, c6, rfl, (⟨h6, hc6, hd6, fun x hx => Nat.le_trans b6.out.size (hf6 x hx), b6.out.trans (hb6.mono b6.out.size)⟩ : _ ∧ _ ∧ _ ∧ _ ∧ _)⟩
  case rest =>
    obtain ⟨a6, c6, rfl, HC⟩ := hcut
    have hw6 := HC.out.2.2.2.2
    have hs6 := hw6.size
    have z0 := HS1.out
    have x0' := cell_grown x0 hw6
    have x1' := cell_grown x1 hw6
    have e1 : wc.heap[w.heap.size + 1]? = some (.cells #[.int .u64 0, .int .i64 0, .slice none 0 0] 80 (0, 0)) := (hw6.block _ (by omega)).trans HE.out.2
    have t0 : wc.cell? ⟨w.heap.size + 1, 0, none⟩ = some (.int .u64 0) := by simp [World.cell?, e1]
    have t1 : wc.cell? ⟨w.heap.size + 1, 1, none⟩ = some (.int .i64 0) := by simp [World.cell?, e1]
    have t2 : wc.cell? ⟨w.heap.size + 1, 2, none⟩ = some (.slice none 0 0) := by simp [World.cell?, e1]
    have tf : ∀ o, wc.frozen? ⟨w.heap.size + 1, o, none⟩ = false := fun o => by simp [World.frozen?, e1]
    have tz := cell_block t0
    have xz' := cell_block x0'
    obtain ⟨pb, po, hpb, hpbl, _, hpc⟩ := (HM.out.2.1.below (Nat.le_refl _) hw6).one (v := Value.int .u64) (fun _ => rfl) (i := i) hi
    have hid : (C.map R.idOf).getD i 0 = R.idOf x := by
      have : i < C.length := by omega
      rw [← HXE.out]
      simp [List.getD, this]
    rw [hid] at hpc
    subst hpb
    obtain ⟨mb, mo, hmb, hmbl, _, hmc⟩ := (HM.out.1.below (Nat.le_refl _) hw6).one (v := Value.int .i64) (fun _ => rfl) (i := pd) hpl
    simp at hmb
    obtain ⟨rfl, rfl⟩ := hmb
    simp only [Nat.zero_add] at hmc
    obtain ⟨ob, oo, hob, hobl, _, _⟩ := HC.out.1.one (v := Value.int .i64) (fun _ => rfl) (i := 0) (by omega)
    subst hob
    have HOB : Hid (W1.heap.size ≤ ob) := HC.out.2.2.2.1 _ rfl
    have HCC : Hid (InIn wc (some ⟨ob, oo, none⟩) 3 ((C.drop (i + 1) ++ C.take i).take 3) ∧ Below W1.heap.size W1 wc) := ⟨HC.out.1.take 3 (by omega), hw6⟩
    have hc6 := HC.out.2.1
    have HID : Hid ((idPe R C i).id = R.idOf x ∧ (idPe R C i).pred = C.getD pd 0 ∧ (idPe R C i).succ = (C.drop (i + 1) ++ C.take i).take 3) := ⟨by show R.idOf (C.getD i 0) = _; rw [HXE.out], by show C.getD ((i + C.length - 1) % C.length) 0 = _; rw [hlen, HPD.out], rfl⟩
    obtain ⟨m1, hm1⟩ : ∃ m1, m1 = n - 1 := ⟨_, rfl⟩
    rw [← hm1] at hc6 ⊢
    have hm3 : 3 ≤ m1 := by omega
    have hm40 : m1 ≤ 40 := by omega
    have sl3 : ∀ W, _ := fun W => sl_to3 ob oo m1 c6 W hm3 hc6
    have hmn1 : ¬ ((m1 : Int) < 3) := by omega
    have hmn3 : min (m1 : Int) 3 = 3 := by omega
    generalize C.getD pd 0 = pv at hmc HID
    clear hw6 hs6 e1 HC hid hm1 z0 x0 x1
    go_upto_region 7 with fail
    go_region
    all_goals
      go_wp2
      have hob := HOB.out
      have hs1 := HS1.out
      have hf : ∀ y, (some ⟨ob, oo, none⟩ : Option Addr) = some y → y.block ≠ w.heap.size + 1 := fun y hy => by cases hy; show ob ≠ w.heap.size + 1; omega
      clear hs1 hob
      refine bodyPost_ret (v := .tuple #[.agg #[.int .u64 (R.idOf x), .int .i64 pv, .slice (some ⟨ob, oo, none⟩) 3 c6], .bool true]) (by simp [results, Tryz.results35, go_sem, *]) rfl ⟨some ⟨ob, oo, none⟩, c6, ?_, ?_, ?_, ?_⟩
      · rw [HID.out.1, HID.out.2.1]
      · rw [HID.out.2.2]
        exact ((HCC.out.1.setCell hf _).setCell hf _).setCell hf _
      · omega
      · have hbb : Below w.heap.size w wc := HM.out.2.2.trans (HCC.out.2.mono HM.out.2.2.size)
        have hq : ∀ o : Nat, w.heap.size ≤ (⟨w.heap.size + 1, o, none⟩ : Addr).block := fun o => Nat.le_succ _
        exact (((hbb.setCell (hq 0) _).setCell (hq 1) _).setCell (hq 2) _).trans ⟨rfl, rfl, rfl, Nat.le_refl _, fun _ _ => rfl⟩

theorem rounds_r (n : Nat) (w : World) (hn : n ≤ 1000) : Calls Tryz.prog 10 #[.int .i64 n] w fun e w' => e = .returned (.int .i64 (4 * (n : Int) + 8)) ∧ w' = w := by
  have hx : max (n : Int) 0 = (n : Int) := by omega
  go_enter Tryz.func10, Tryz.ntmps10
  go_wp2
  go_ret
  exact ⟨rfl, rfl⟩
end Go.Proofs.YtmajlldfiiokoaaGreatDoor

/- What ring.Start answers. -/
namespace Go.Proofs.YtmajlldfiiokoaaGreatDoor
open Go.ChangeShapes Go.WideShapes Go.ChangeAt Go.RowKit

theorem start_any (x n : Int) (w : World) :
    Calls Tryz.prog 96 #[.int .u64 x, .int .i64 n] w fun e w' => e = .returned (.int .u64 (startN x n)) ∧ w' = w := by
  by_cases h0 : n < 0
  · go_enter Tryz.func96, Tryz.ntmps96
    go_wp2
    go_ret
    exact ⟨ret_i (start_out x n (Or.inl h0)).symm, rfl⟩
  · by_cases h1 : 63 < n
    · go_enter Tryz.func96, Tryz.ntmps96
      go_wp2
      go_ret
      exact ⟨ret_i (start_out x n (Or.inr h1)).symm, rfl⟩
    · go_enter Tryz.func96, Tryz.ntmps96
      go_wp2
      go_ret
      refine ⟨ret_i ?_, rfl⟩
      rw [start_in x n (by omega) (by omega)]
      exact Int.add_emod_emod _ _ _
end Go.Proofs.YtmajlldfiiokoaaGreatDoor

/- Owner, Finger, Len; layer 11's answers that the document fixes. -/
namespace Go.Proofs.YtmajlldfiiokoaaGreatDoor
open Go.ChangeShapes Go.WideShapes Go.ChangeAt Go.RowKit Go.Deep
set_option linter.unusedVariables false

set_option maxHeartbeats 2000000 in
theorem cowner_r (R : Rg) (C : List Int) (g c d n k : Nat) (b : Option Addr) (x : Int) (w : World) (hm : InIn w (some ⟨g, 0, none⟩) n C) (hp : IdIn w b n (C.map R.idOf)) (h4 : 4 ≤ n) (hk : ownerN (C.map R.idOf) x = (k : Int)) (hkn : k < n) :
    Calls Tryz.prog 33 #[.agg #[.slice (some ⟨g, 0, none⟩) n c, .slice b n d], .int .u64 x] w fun e w' => e = .returned (.int .i64 (C.getD k 0)) ∧ Below w.heap.size w w' := by
  obtain ⟨W1, hW1⟩ : ∃ W1, W1 = w.alloc (.cells #[.slice (some ⟨g, 0, none⟩) n c, .slice b n d] 50) := ⟨_, rfl⟩
  have b1 : Below w.heap.size w W1 := by rw [hW1]; exact below_one _ _
  have x0 : W1.cell? ⟨w.heap.size, 0, none⟩ = some (.slice (some ⟨g, 0, none⟩) n c) := by rw [hW1]; simp
  have x1 : W1.cell? ⟨w.heap.size, 1, none⟩ = some (.slice b n d) := by rw [hW1]; simp
  have xz := cell_block x0
  have hp1 := hp.below (Nat.le_refl _) b1
  obtain ⟨pb, po, hpb, _, _, _⟩ := hp1.one (v := Value.int .u64) (fun _ => rfl) (i := 0) (by omega)
  subst hpb
  have hpm := hp1.2.1
  obtain ⟨g', o', e', hgl, _, hcx⟩ := (hm.below (Nat.le_refl _) b1).one (v := Value.int .i64) (fun _ => rfl) (i := k) hkn
  simp at e'
  obtain ⟨rfl, rfl⟩ := e'
  simp only [Nat.zero_add] at hcx
  have OW : Hid _ := owner_some pb po n d (C.map R.idOf) x W1 hp1.1 (by omega) hpm (fun j hj => by
    obtain ⟨b2, o2, e2, _, _, h2⟩ := hp1.one (v := Value.int .u64) (fun _ => rfl) (i := j) hj
    cases e2; exact h2)
  rw [hk] at OW
  have HB : Hid (Below w.heap.size w W1) := b1
  have hk0 : ¬ (k : Int) < 0 := by omega
  generalize C.getD k 0 = y at hcx
  clear hp hm b1 hp1 hk
  go_enter Tryz.func33, Tryz.ntmps33
  go_upto_region 1 with fail
  rw [← hW1]
  clear hW1
  go_wp2_with (go_at_call 77; refine Calls.mono OW.out ?_; rintro e w' ⟨rfl, rfl⟩)
  go_ret
  exact ⟨rfl, HB.out⟩
theorem livA' : ringA.liveTo 32 = [0, 1, 2, 3] := by kernel_rfl
theorem cirA {C : List Int} (h : Cir ringA C) : C = [0, 1, 2, 3] := by
  have hl : C.length = 4 := by rw [h.len]; show (ringA.liveTo 32).length = 4; rw [livA']; rfl
  have hid : ∀ x, ringA.lives x = true → ringA.idOf x = 10 * (x + 1) ∧ 0 ≤ x ∧ x < 4 := fun x hx => by
    have hr := (ringA_lives x).1 hx
    refine ⟨?_, hr⟩
    rcases (show x = 0 ∨ x = 1 ∨ x = 2 ∨ x = 3 by omega) with e | e | e | e <;> subst e <;> rfl
  match C, hl, h with
  | [a, b, c, d], _, h =>
    have ha := hid a ((h.mem a).1 (by simp))
    have hb := hid b ((h.mem b).1 (by simp))
    have hc := hid c ((h.mem c).1 (by simp))
    have hd := hid d ((h.mem d).1 (by simp))
    have hr := h.rise
    simp at hr
    have e0 : a = 0 := by omega
    have e1 : b = 1 := by omega
    have e2 : c = 2 := by omega
    have e3 : d = 3 := by omega
    rw [e0, e1, e2, e3]
theorem isA : isB ringA [0, 1, 2, 3] 4 = true := by kernel_rfl
theorem ow25 : ownerN ([0, 1, 2, 3].map ringA.idOf) 25 = ((2 : Nat) : Int) := by kernel_rfl
theorem ow41 : ownerN ([0, 1, 2, 3].map ringA.idOf) 41 = ((0 : Nat) : Int) := by kernel_rfl
theorem fi04 : ownerN ([0, 1, 2, 3].map ringA.idOf) (startN (ringA.idOf ([0, 1, 2, 3].getD 0 0)) ((4 : Nat) : Int)) = ((2 : Nat) : Int) := by kernel_rfl
theorem lenA : ringA.live.length = 4 := by show (ringA.liveTo 32).length = 4; rw [livA']; rfl
end Go.Proofs.YtmajlldfiiokoaaGreatDoor

/- The circle's owner of a place is the one at which all ways end. -/
namespace Go.Proofs.YtmajlldfiiokoaaGreatDoor
open Go.ChangeShapes Go.WideShapes Go.ChangeAt Go.RowKit Go.Deep
set_option linter.unusedVariables false

theorem owner_is {R : Rg} (h : Rgt 3 R) (G : Int → List Int) {x ro : Int} (hx : Plc x) (hc : Conv (nxR R G x) (fun n => R.lives n = true) (R.nextTo G x) ro) (r gp gk : Nat) (w : World) (hr : RingAt w r gp gk R) :
    Calls Tryz.prog 18 #[.pointer (some ⟨r, 0, none⟩)] w fun e w' => ∃ (g : Nat) (b : Option Addr) (c d : Nat), e = .returned (.agg #[.slice (some ⟨g, 0, none⟩) R.live.length c, .slice b R.live.length d]) ∧ Below w.heap.size w w' ∧
      ∀ W', Below w'.heap.size w' W' → Calls Tryz.prog 33 #[.agg #[.slice (some ⟨g, 0, none⟩) R.live.length c, .slice b R.live.length d], .int .u64 x] W' fun e w9 => e = .returned (.int .i64 ro) ∧ Below W'.heap.size W' w9 := by
  refine (of_r r gp gk R w hr h.1).mono ?_
  rintro e w' ⟨C, g, b, c, d, he, hC, hm, _, _, hp, _, b'⟩
  obtain ⟨r2, hc2, k, hk1, hk2, hk3⟩ := conv_ring h hC G hx
  have e2 : r2 = ro := hc.fx r2 hc2.rt.2.1 hc2.rt.1
  have hcl : C.length = R.live.length := hC.len
  refine ⟨g, b, c, d, he, b', fun W' hW' => ?_⟩
  refine (cowner_r R C g c d R.live.length k b x W' (hm.below (Nat.le_refl _) hW') (hp.below (Nat.le_refl _) hW') (live_four h.1) hk2 (by omega)).mono ?_
  rintro e w9 ⟨he9, b9⟩
  exact ⟨by rw [he9, hk3, e2], b9⟩
theorem ints_same (a : Option Addr) (n c : Nat) (b : Option Addr) (m d : Nat) (l : List Int) (w : World) (hl : InIn w a n l) (hk : InIn w b m l) :
    Calls Tryz.prog 28 #[.slice a n c, .slice b m d] w fun e w' => e = .returned (.bool true) ∧ Below w.heap.size w w' :=
  (ints_any a n c l b m d l w hl hk).mono (fun e w' z => ⟨by rw [z.1]; simp [intsB], z.2⟩)
end Go.Proofs.YtmajlldfiiokoaaGreatDoor

/- wigwaglaw20.List: a list says who is next. wigwaglaw20.awake. -/
namespace Go.Proofs.YtmajlldfiiokoaaGreatDoor
open Go.ChangeShapes Go.WideShapes Go.ChangeAt Go.RowKit Go.Deep
open Go.ChangeMaps (setBlock)
set_option linter.unusedVariables false

/-- As the list says; of others, and where it says -1, nobody. -/
def nxL (l : List Int) (n : Int) : Option Int := if 0 ≤ n ∧ n < l.length ∧ l.getD n.toNat 0 ≠ -1 then some (l.getD n.toNat 0) else none
theorem nxL_some {l : List Int} {n v : Int} (h : nxL l n = some v) : 0 ≤ n ∧ n < l.length ∧ v ≠ -1 ∧ l.getD n.toNat 0 = v := by
  unfold nxL at h
  split at h
  · rename_i q
    have := Option.some.inj h
    exact ⟨q.1, q.2.1, by rw [← this]; exact q.2.2, this⟩
  · cases h
theorem nxL_neg (l : List Int) : nxL l (-1) = none := by unfold nxL; rw [if_neg (by omega)]

set_option maxHeartbeats 1000000 in
theorem lnext_any (a : Option Addr) (len c : Nat) (l : List Int) (n x : Int) (w : World) (hin : InIn w a len l) (hl : len ≤ 1000) :
    Calls Tryz.prog 249 #[.slice a len c, .int .i64 n, .int .u64 x] w fun e w' => e = .returned (nxV (nxL l n)) ∧ Below w.heap.size w w' := by
  have H : Hid (InIn w a len l) := hin
  have HL : Hid (l.length = len) := hin.1
  clear hin
  by_cases h0 : n < 0
  · have HN : Hid (nxL l n = none) := by show nxL l n = none; unfold nxL; rw [if_neg (by omega)]
    go_enter Tryz.func249, Tryz.ntmps249
    go_wp2
    go_ret2
    exact ⟨by rw [HN.out]; rfl, Below.refl _ _⟩
  · by_cases h1 : n < (len : Int)
    · obtain ⟨k, rfl⟩ : ∃ k : Nat, n = k := ⟨n.toNat, by omega⟩
      have hk : k < len := by omega
      obtain ⟨mb, mo, hmb, hml, _, hmc⟩ := H.out.one (v := Value.int .i64) (fun _ => rfl) (i := k) hk
      subst hmb
      obtain ⟨y, hy⟩ : ∃ y, y = l.getD k 0 := ⟨_, rfl⟩
      rw [← hy] at hmc
      have hk0 : (0 : Int) ≤ (k : Int) := by omega
      by_cases hv : y = -1
      · have e1 : (y == -1) = true := by simpa using hv
        have HN : Hid (nxL l k = none) := by show nxL l k = none; unfold nxL; rw [if_neg (fun z => z.2.2 (by rw [Int.toNat_natCast, ← hy]; exact hv))]
        clear hv hy h0
        go_enter Tryz.func249, Tryz.ntmps249
        go_wp2
        go_ret2
        exact ⟨by rw [HN.out]; rfl, Below.refl _ _⟩
      · have e1 : (y == -1) = false := by simpa using hv
        have HN : Hid (nxL l k = some y) := by
          show nxL l k = some y
          unfold nxL
          rw [if_pos ⟨by omega, by rw [HL.out]; omega, by rw [Int.toNat_natCast, ← hy]; exact hv⟩, Int.toNat_natCast, ← hy]
        clear hv hy h0
        go_enter Tryz.func249, Tryz.ntmps249
        go_wp2
        go_ret2
        exact ⟨by rw [HN.out]; rfl, Below.refl _ _⟩
    · have HN : Hid (nxL l n = none) := by show nxL l n = none; unfold nxL; rw [if_neg (by rw [HL.out]; omega)]
      go_enter Tryz.func249, Tryz.ntmps249
      go_wp2
      go_ret2
      exact ⟨by rw [HN.out]; rfl, Below.refl _ _⟩
theorem mth_list (a : Option Addr) (len c : Nat) (w : World) : (method 432 104 (.slice a len c) "Next").run Tryz.prog w = .ok (249, .slice a len c) w := by kernel_rfl
theorem ent_list (args : Array Value) (w : World) : (callFunc 249 args).run Tryz.prog w = .ok (.enter 249 args) w := by kernel_rfl
theorem wk_list (w : World) (a : Option Addr) (len c : Nat) (l : List Int) (x : Int) (hin : InIn w a len l) (hl : len ≤ 1000) : Wk w 104 (.slice a len c) 249 x (nxL l) :=
  ⟨mth_list a len c, ent_list, fun W n hW => lnext_any a len c l n x W (hin.below (Nat.le_refl _) hW) hl⟩
end Go.Proofs.YtmajlldfiiokoaaGreatDoor

/- wigwaglaw09.Cut: a peer that knows at most eight behind it. -/
namespace Go.Proofs.YtmajlldfiiokoaaGreatDoor
open Go.ChangeShapes Go.WideShapes Go.ChangeAt Go.RowKit Go.Deep
set_option linter.unusedVariables false

/-- The cells of a peer's block, behind an append to a row made later. -/
theorem peer_block {W w1 : World} {g : Nat} {c0 c1 c2 : Value} {row : Option Nat} (hc : W.heap[g]? = some (.cells #[c0, c1, c2] 80 (0, 0))) (hg : W.grownBy w1 row) (hr : row ≠ some g) :
    w1.cell? ⟨g, 0, none⟩ = some c0 ∧ w1.cell? ⟨g, 1, none⟩ = some c1 ∧ w1.cell? ⟨g, 2, none⟩ = some c2 ∧ (∀ o, w1.frozen? ⟨g, o, none⟩ = false) ∧ g < w1.heap.size := by
  have hlt : g < W.heap.size := by
    rcases Nat.lt_or_ge g W.heap.size with q | q
    · exact q
    · rw [Array.getElem?_eq_none q] at hc; cases hc
  have e : w1.heap[g]? = some (.cells #[c0, c1, c2] 80 (0, 0)) := (hg.block g hlt (Ne.symm hr)).trans hc
  refine ⟨?_, ?_, ?_, fun o => ?_, ?_⟩
  · simp [World.cell?, e]
  · simp [World.cell?, e]
  · simp [World.cell?, e]
  · simp [World.frozen?, e]
  · rcases Nat.lt_or_ge g w1.heap.size with q | q
    · exact q
    · rw [Array.getElem?_eq_none q] at e; cases e

end Go.Proofs.YtmajlldfiiokoaaGreatDoor

/- Layer 9's answers that the document fixes. -/
namespace Go.Proofs.YtmajlldfiiokoaaGreatDoor
open Go.ChangeShapes Go.WideShapes Go.ChangeAt Go.RowKit Go.Deep
set_option linter.unusedVariables false

/-- A list written out, in a block of its own. -/
theorem in_lit {α : Type} {enc : α → List Value} {ok : α → Prop} {d : α} {v : α → Value} (hv : ∀ x, enc x = [v x]) {w : World} {g : Nat} {T : TypeId} (l : List α) {arr : Array Value} (hl : l.map v = arr.toList) (hg : w.heap[g]? = some (.cells arr T (0, 0))) (hok : ∀ x ∈ l, ok x) (hm : l.length ≤ 9223372036854775807) :
    InRow 1 enc ok d w (some ⟨g, 0, none⟩) l.length l := by
  refine ⟨rfl, hm, .inr ⟨g, 0, rfl, ?_, fun i hi => ?_⟩⟩
  · rcases Nat.lt_or_ge g w.heap.size with q | q
    · exact q
    · rw [Array.getElem?_eq_none q] at hg; cases hg
  · have e0 : l.getD i d = l[i] := by simp [List.getD, hi]
    refine ⟨by rw [e0]; exact hok _ (List.getElem_mem _), fun j hj => ?_⟩
    obtain rfl : j = 0 := by omega
    have e1 : arr[i]? = some (v l[i]) := by rw [← Array.getElem?_toList, ← hl]; simp [hi]
    rw [e0, hv]
    simp [World.cell?, hg, e1]

theorem cell_far {w : World} {p a : Addr} {v : Value} (h : p.block ≠ a.block) : (w.setCell p v).cell? a = w.cell? a := by rw [World.cell?_setCell_other]; exact fun e => h (by rw [e])

theorem new_block (w : World) (o : Obj) {n : Nat} (h : n = w.heap.size) : (w.alloc o).heap[n]? = some o := by subst h; exact heap_alloc_new w o

theorem field_pred (a c : Value) (w : World) : (Instr.field 80 (.agg #[a, .int .i64 0, c]) 1).run Tryz.prog w = .ok (.int .i64 0) w := by kernel_rfl

end Go.Proofs.YtmajlldfiiokoaaGreatDoor

/- wigwaglaw20.awake. -/
namespace Go.Proofs.YtmajlldfiiokoaaGreatDoor
open Go.ChangeShapes Go.WideShapes Go.ChangeAt Go.RowKit Go.Deep
open Go.ChangeMaps (setBlock)
set_option linter.unusedVariables false

def trA : Tr := ⟨2, [(3, 0), (0, 1), (1, 2)]⟩
theorem treeA : treeOf (nxL [1, 2, 2, 0]) [3, 1] = (0, trA) := by rfl
theorem depA : trA.depth 3 = 3 := by rfl
theorem rising_is : ∀ (s t : List Int), s.Pairwise (· < ·) → t.Pairwise (· < ·) → (∀ x, x ∈ s ↔ x ∈ t) → s = t
  | [], [], _, _, _ => rfl
  | [], b :: t, _, _, h => by have := (h b).2 (by simp); simp at this
  | a :: s, [], _, _, h => by have := (h a).1 (by simp); simp at this
  | a :: s, b :: t, hs, ht, h => by
    have hs1 := List.pairwise_cons.1 hs
    have ht1 := List.pairwise_cons.1 ht
    have hab : a = b := by
      have h1 := (h a).1 (by simp)
      have h2 := (h b).2 (by simp)
      rcases List.mem_cons.1 h1 with e | m
      · exact e
      · rcases List.mem_cons.1 h2 with e | m2
        · exact e.symm
        · have := ht1.1 a m; have := hs1.1 b m2; omega
    subst hab
    congr 1
    refine rising_is s t hs1.2 ht1.2 (fun x => ?_)
    have hx := h x
    simp only [List.mem_cons] at hx
    constructor
    · intro m
      have := hs1.1 x m
      rcases hx.1 (.inr m) with e | m2
      · omega
      · exact m2
    · intro m
      have := ht1.1 x m
      rcases hx.2 (.inr m) with e | m2
      · omega
      · exact m2
theorem intsA1 : intsB [0, 1, 2, 3] [0, 1, 2, 3] = true := by rfl
theorem intsA2 : intsB [1] [1] = true := by rfl

set_option maxRecDepth 100000 in
set_option maxHeartbeats 4000000 in
theorem awake20_any (w : World) : Calls Tryz.prog 9 #[] w fun e w' => e = .returned (.bool true) ∧ Below w.heap.size w w' := by
  obtain ⟨W1, hW1⟩ : ∃ W, W = w.alloc (.cells #[.int .i64 1, .int .i64 2, .int .i64 2, .int .i64 0] 3) := ⟨_, rfl⟩
  obtain ⟨W2, hW2⟩ : ∃ W, W = W1.alloc (.cells #[.int .i64 3, .int .i64 1] 3) := ⟨_, rfl⟩
  have b1 : Below w.heap.size w W1 := by rw [hW1]; exact below_one _ _
  have b2 : Below W1.heap.size W1 W2 := by rw [hW2]; exact below_one _ _
  have s1 : W1.heap.size = w.heap.size + 1 := by rw [hW1]; simp
  have i1 : InIn W1 (some ⟨w.heap.size, 0, none⟩) 4 [1, 2, 2, 0] := in_lit (v := Value.int .i64) (T := 3) (arr := #[.int .i64 1, .int .i64 2, .int .i64 2, .int .i64 0]) (fun _ => rfl) [1, 2, 2, 0] rfl (by rw [hW1]; exact heap_alloc_new w _) (by simp [i64]) (by decide)
  have i2 : InIn W2 (some ⟨w.heap.size + 1, 0, none⟩) 2 [3, 1] := in_lit (v := Value.int .i64) (T := 3) (arr := #[.int .i64 3, .int .i64 1]) (fun _ => rfl) [3, 1] rfl (by rw [hW2, ← s1]; exact heap_alloc_new W1 _) (by simp [i64]) (by decide)
  have hO := tree_of W2 104 (.slice (some ⟨w.heap.size, 0, none⟩) 4 4) 249 (nxL [1, 2, 2, 0]) ⟨#[103]⟩ (some ⟨w.heap.size + 1, 0, none⟩) 2 2 [3, 1] (by decide) i2 (wk_list W2 _ _ _ _ _ (i1.below (Nat.le_refl _) b2) (by decide)) (nxL_neg _) (by decide)
  rw [treeA] at hO
  have HO : Hid _ := hO
  have HB : Hid (Below w.heap.size w W2) := b1.trans (b2.mono b1.size)
  clear b1 b2 i1 i2 hO s1
  go_enter Tryz.func9, Tryz.ntmps9
  go_wp2_with fail
  rw [← hW1, ← hW2]
  refine Calls.mono HO.out ?_
  clear HO hW1 hW2
  rintro e w3 ⟨h3, b3⟩
  rcases h3 with ⟨h0, _⟩ | ⟨_, g, rfl, hup⟩
  · exact absurd rfl h0
  simp only [trA] at hup ⊢
  have H3 : Hid (UpAt w3 g trA.up ∧ Below w.heap.size w w3) := ⟨hup, HB.out.trans (b3.mono HB.out.size)⟩
  clear hup b3 HB
  have HI : Hid ((∀ k ∈ trA.up.map (·.1), i64 k) ∧ TrOk (nxL [1, 2, 2, 0]) trA) := ⟨by simp [trA, i64], by have := tree_ok (nxL [1, 2, 2, 0]) [3, 1]; rw [treeA] at this; exact this⟩
  obtain ⟨W4, hW4⟩ : ∃ W, W = w3.alloc (.cells #[.int .i64 2, .map (some g)] 43) := ⟨_, rfl⟩
  obtain ⟨q, hq⟩ : ∃ q, q = w3.heap.size := ⟨_, rfl⟩
  have b4 : Below w3.heap.size w3 W4 := by rw [hW4]; exact below_one _ _
  have c0 : W4.cell? ⟨q, 0, none⟩ = some (.int .i64 2) := by rw [hW4, hq]; exact World.cell?_alloc_new ..
  have c1 : W4.cell? ⟨q, 1, none⟩ = some (.map (some g)) := by rw [hW4, hq]; simp
  have H4 : Hid (UpAt W4 g trA.up ∧ Below w.heap.size w W4) := ⟨H3.out.1.below b4, H3.out.2.trans (b4.mono H3.out.2.size)⟩
  clear b4 H3
  have cl := cell_block c0
  go_upto_region 2 with fail
  rw [← hW4]
  try rw [← hq]
  clear hW4 hq
  go_wp2_with fail
  refine (depth_any trA g 3 _ H4.out.1 (by decide)).mono ?_
  rintro e w5 ⟨rfl, b5⟩
  rw [depA]
  replace c0 := cell_grown c0 b5
  replace c1 := cell_grown c1 b5
  replace cl := cell_block c0
  have H5 : Hid (UpAt w5 g trA.up ∧ Below w.heap.size w w5) := ⟨H4.out.1.below b5, H4.out.2.trans (b5.mono H4.out.2.size)⟩
  clear b5 H4
  go_wp2_with fail
  refine (nodes_t (nxL [1, 2, 2, 0]) trA g _ H5.out.1 (by decide) HI.out.1 (by simp [trA, i64]) HI.out.2).mono ?_
  rintro e w6 ⟨v, l, rfl, hs, hp, hm, b6⟩
  have hl : l = [0, 1, 2, 3] := rising_is _ _ hp (by simp) (fun x => by
    rw [hm]
    unfold Tr.inT
    simp only [trA, lookI]
    constructor
    · rintro (⟨_, rfl⟩ | ⟨v, hv⟩)
      · simp
      · repeat (split at hv; (rename_i q; simp [← q]))
        cases hv
    · intro hx
      simp at hx
      rcases hx with rfl | rfl | rfl | rfl
      · exact .inr ⟨1, rfl⟩
      · exact .inr ⟨2, rfl⟩
      · exact .inl ⟨by decide, rfl⟩
      · exact .inr ⟨0, rfl⟩)
  subst hl
  obtain ⟨a6, k6, rfl, hin, _⟩ := hs.ex
  have H6 : Hid (UpAt w6 g trA.up ∧ Below w.heap.size w w6 ∧ InIn w6 a6 4 [0, 1, 2, 3]) := ⟨H5.out.1.below b6, H5.out.2.trans (b6.mono H5.out.2.size), hin⟩
  replace c0 := cell_grown c0 b6
  replace c1 := cell_grown c1 b6
  replace cl := cell_block c0
  clear b6 H5 hin hp hm hs
  go_wp2_with fail
  refine (ints_any a6 4 k6 [0, 1, 2, 3] (some ⟨w6.heap.size, 0, none⟩) 4 4 [0, 1, 2, 3] _ (H6.out.2.2.below (Nat.le_refl _) (below_one _ _)) (in_lit (v := Value.int .i64) (T := 3) (arr := #[.int .i64 0, .int .i64 1, .int .i64 2, .int .i64 3]) (fun _ => rfl) [0, 1, 2, 3] rfl (heap_alloc_new w6 _) (by simp [i64]) (by decide))).mono ?_
  rintro e w7 ⟨rfl, b7⟩
  rw [intsA1]
  have b67 : Below w6.heap.size w6 w7 := (below_one _ _).trans (b7.mono (by simp))
  have H7 : Hid (UpAt w7 g trA.up ∧ Below w.heap.size w w7) := ⟨H6.out.1.below b67, H6.out.2.1.trans (b67.mono H6.out.2.1.size)⟩
  replace c0 := cell_grown c0 b67
  replace c1 := cell_grown c1 b67
  replace cl := cell_block c0
  clear b7 b67 H6
  go_wp2_with fail
  refine (children_t trA g 2 _ H7.out.1 (by decide) HI.out.1).mono ?_
  rintro e w8 ⟨v, l, rfl, hs, hp, hm, b8⟩
  have hl : l = [1] := rising_is _ _ hp (by simp) (fun x => by
    rw [hm]
    simp only [trA, lookI]
    constructor
    · intro hv
      split at hv
      · cases hv
      · split at hv
        · cases hv
        · split at hv
          · rename_i q; simp [← q]
          · cases hv
    · intro hx
      simp at hx
      subst hx
      rfl)
  subst hl
  obtain ⟨a8, k8, rfl, hin, _⟩ := hs.ex
  have H8 : Hid (Below w.heap.size w w8 ∧ InIn w8 a8 1 [1]) := ⟨H7.out.2.trans (b8.mono H7.out.2.size), hin⟩
  clear b8 H7 hin hp hm hs
  go_wp2_with fail
  refine (ints_any a8 1 k8 [1] (some ⟨w8.heap.size, 0, none⟩) 1 1 [1] _ (H8.out.2.below (Nat.le_refl _) (below_one _ _)) (in_lit (v := Value.int .i64) (T := 3) (arr := #[.int .i64 1]) (fun _ => rfl) [1] rfl (heap_alloc_new w8 _) (by simp [i64]) (by decide))).mono ?_
  rintro e w9 ⟨rfl, b9⟩
  rw [intsA2]
  have b89 : Below w8.heap.size w8 w9 := (below_one _ _).trans (b9.mono (by simp))
  go_wp2
  go_ret
  exact ⟨rfl, H8.out.1.trans (b89.mono H8.out.1.size)⟩
end Go.Proofs.YtmajlldfiiokoaaGreatDoor

/- Down from the root of a tree, whoever is met: plain lists. No program in sight. -/
namespace Go.Proofs.YtmajlldfiiokoaaGreatDoor
set_option linter.unusedVariables false

/-- Of those that came, who tells one. -/
def chl (up : List (Int × Int)) (D : List Int) (k : Int) : List Int := D.filter (fun n => decide (lookI up n = some k))
theorem mem_chl {up : List (Int × Int)} {D : List Int} {k x : Int} : x ∈ chl up D k ↔ x ∈ D ∧ lookI up x = some k := by simp [chl]
theorem chl_yes {up : List (Int × Int)} {D : List Int} {k n : Int} (h : lookI up n = some k) : chl up (D ++ [n]) k = chl up D k ++ [n] := by simp [chl, h]
theorem chl_no {up : List (Int × Int)} {D : List Int} {k n : Int} (h : lookI up n ≠ some k) : chl up (D ++ [n]) k = chl up D k := by simp [chl, h]
theorem chl_nodup {up : List (Int × Int)} {D : List Int} (h : D.Nodup) (k : Int) : (chl up D k).Nodup := h.filter _
theorem chl_len (up : List (Int × Int)) (D : List Int) (k : Int) : (chl up D k).length ≤ D.length := List.length_filter_le _ _

/-- Who was met when i of them have been looked at. -/
structure Met (t : Tr) (D M : List Int) (i : Nat) : Prop where
  eq : M = (t.root :: M.take i).flatMap (chl t.up D)
  nd : M.Nodup
  rc : ∀ x ∈ M, ∃ k, t.rch k x
theorem Met.start {t : Tr} {D : List Int} (hd : D.Nodup) (hr : lookI t.up t.root = none) : Met t D (chl t.up D t.root) 0 := by
  refine ⟨by simp, chl_nodup hd _, fun x hx => ?_⟩
  have h := (mem_chl.1 hx).2
  have hne : x ≠ t.root := fun e => by rw [e, hr] at h; cases h
  exact ⟨1, hne, _, h, rfl⟩
theorem Met.has {t : Tr} {D M : List Int} {i : Nat} (h : Met t D M i) {x : Int} (hx : x ∈ M) : x ∈ D ∧ ∃ p, (p = t.root ∨ p ∈ M.take i) ∧ lookI t.up x = some p := by
  rw [h.eq] at hx
  obtain ⟨p, hp, hq⟩ := List.mem_flatMap.1 hx
  rw [mem_chl] at hq
  exact ⟨hq.1, p, List.mem_cons.1 hp, hq.2⟩
theorem Met.step {t : Tr} {D M : List Int} {i : Nat} (h : Met t D M i) (hd : D.Nodup) (hr : lookI t.up t.root = none) (hi : i < M.length) : Met t D (M ++ chl t.up D (M.getD i 0)) (i + 1) := by
  have hy : M.getD i 0 = M[i] := by rw [List.getD_eq_getElem?_getD, List.getElem?_eq_getElem hi]; rfl
  rw [hy]
  have ht : M.take (i + 1) = M.take i ++ [M[i]] := List.take_succ_eq_append_getElem hi
  have hym : M[i] ∈ M := List.getElem_mem hi
  obtain ⟨_, p, _, hp⟩ := h.has hym
  have hyr : M[i] ≠ t.root := fun e => by rw [e, hr] at hp; cases hp
  have hout : M[i] ∉ M.take i := fun hm => by
    have hs : (M.take (i + 1)).Nodup := h.nd.sublist (List.take_sublist _ _)
    rw [ht] at hs
    exact (List.nodup_append.1 hs).2.2 _ hm _ (by simp) rfl
  refine ⟨?_, ?_, ?_⟩
  · rw [List.take_append_of_le_length (by omega), ht, ← List.cons_append, List.flatMap_append, ← h.eq]
    simp
  · refine List.nodup_append.2 ⟨h.nd, chl_nodup hd _, fun a ha b hb e => ?_⟩
    subst e
    obtain ⟨_, q, hq, hq2⟩ := h.has ha
    rw [(mem_chl.1 hb).2] at hq2
    have e2 : M[i] = q := Option.some.inj hq2
    rcases hq with e | hm
    · exact hyr (e2.trans e)
    · rw [← e2] at hm; exact hout hm
  · intro x hx
    rcases List.mem_append.1 hx with hx | hx
    · exact h.rc x hx
    · obtain ⟨k, hk⟩ := h.rc _ hym
      have hl := (mem_chl.1 hx).2
      have hne : x ≠ t.root := fun e => by rw [e, hr] at hl; cases hl
      exact ⟨k + 1, hne, _, hl, hk⟩
theorem Met.len {t : Tr} {D M : List Int} {i : Nat} (h : Met t D M i) : M.length ≤ D.length := nodup_le M D h.nd (fun x hx => (h.has hx).1)
/-- Of how many one comes to the root. -/
noncomputable def belN (t : Tr) : Nat := by classical exact ((t.up.map (·.1)).filter (fun x => decide (∃ k, t.rch k x))).length
theorem belN_le (t : Tr) : belN t ≤ t.up.length := by
  classical
  unfold belN
  have := List.length_filter_le (fun x => decide (∃ k, t.rch k x)) (t.up.map (·.1))
  rw [List.length_map] at this
  exact this
theorem belN_all {t : Tr} (h : ∀ x, x ∈ t.up.map (·.1) → ∃ k, t.rch k x) : belN t = t.up.length := by
  classical
  unfold belN
  rw [List.filter_eq_self.2 (fun x hx => by simpa using h x hx), List.length_map]
theorem belN_few {t : Tr} {x : Int} (hx : x ∈ t.up.map (·.1)) (h : ∀ k, ¬ t.rch k x) : belN t < t.up.length := by
  classical
  unfold belN
  have h1 : ((t.up.map (·.1)).filter (fun x => decide (∃ k, t.rch k x))).length < (t.up.map (·.1)).length :=
    List.length_filter_lt_length_iff_exists.2 ⟨x, hx, by simpa using h⟩
  rw [List.length_map] at h1
  exact h1
/-- At the end. -/
theorem Met.num {t : Tr} {D M : List Int} (h : Met t D M M.length) (hn : (t.up.map (·.1)).Nodup) (hr : lookI t.up t.root = none) (hD : ∀ x, x ∈ D ↔ x ∈ t.up.map (·.1)) : M.length = belN t := by
  classical
  have hsub : ∀ x, x ∈ M → x ∈ t.up.map (·.1) := fun x hx => (hD x).1 (h.has hx).1
  have hin : ∀ (k : Nat) (x : Int), t.rch k x → x ∈ t.up.map (·.1) → x ∈ M := by
    intro k
    induction k with
    | zero =>
      intro x hx hk
      have hx : x = t.root := hx
      rw [hx] at hk
      exact absurd hk (lookI_none.1 hr)
    | succ k ih =>
      rintro x ⟨hne, v, hv, hk⟩ hx
      have hp : v = t.root ∨ v ∈ M := by
        cases k with
        | zero => exact .inl hk
        | succ k =>
          obtain ⟨_, u, hu, _⟩ := id hk
          exact .inr (ih v hk (List.mem_map.2 ⟨_, lookI_some hu, rfl⟩))
      rw [h.eq, List.take_length]
      exact List.mem_flatMap.2 ⟨v, List.mem_cons.2 hp, mem_chl.2 ⟨(hD x).2 hx, hv⟩⟩
  unfold belN
  refine Nat.le_antisymm (nodup_le _ _ h.nd (fun x hx => List.mem_filter.2 ⟨hsub x hx, by simpa using h.rc x hx⟩)) (nodup_le _ _ (hn.filter _) (fun x hx => ?_))
  obtain ⟨h1, h2⟩ := List.mem_filter.1 hx
  obtain ⟨k, hk⟩ := of_decide_eq_true h2
  exact hin k x hk h1
end Go.Proofs.YtmajlldfiiokoaaGreatDoor

/- tree.Tree.below in memory: rows of those that tell one, in a map. -/
namespace Go.Proofs.YtmajlldfiiokoaaGreatDoor
open Go.ChangeShapes Go.WideShapes Go.ChangeAt Go.RowKit Go.Deep
open Go.ChangeMaps (setBlock)
set_option linter.unusedVariables false

def rowOf (rows : List (Int × Value)) (k : Int) : Value := (look rows k).getD (.slice none 0 0)
/-- On the way: Di came already, and those of D lie in rows by whom they tell. -/
structure Bw (W wr : World) (B g r hh : Nat) (up : List (Int × Int)) (Di D : List Int) (rows : List (Int × Value)) : Prop where
  it : ItK kvI wr g r (upV up) Di
  bel : Below W.heap.size W wr
  lo : W.heap.size ≤ r ∧ W.heap.size ≤ B ∧ W.heap.size ≤ hh
  ne : hh ≠ r ∧ hh ≠ g
  mp : MpAt wr hh rows
  row : ∀ k v, look rows k = some v → wr.ownsRow B 3 1 v (chl up D k).length ((chl up D k).map cellI)
  off : ∀ k v, look rows k = some v → ∀ x, v.ownBlock = some x → x ≠ r
  dis : ∀ k v k' v', look rows k = some v → look rows k' = some v' → k ≠ k' → ∀ x, v.ownBlock = some x → v'.ownBlock ≠ some x
  dn : D.Nodup
  dm : ∀ k ∈ D, k ∈ up.map (·.1)
  ks : ∀ k, look rows k = none → chl up D k = []
section
variable {W wr : World} {B g r hh : Nat} {up : List (Int × Int)} {Di D : List Int} {rows : List (Int × Value)}
theorem Bw.get (h : Bw W wr B g r hh up Di D rows) (k : Int) : wr.ownsRow B 3 1 (rowOf rows k) (chl up D k).length ((chl up D k).map cellI) := by
  unfold rowOf
  cases hq : look rows k with
  | none => rw [h.ks k hq]; exact World.ownsRow_nil _ _ _ _
  | some v => exact h.row k v hq
theorem Bw.len (h : Bw W wr B g r hh up Di D rows) : D.length ≤ up.length := by
  have := nodup_le D (up.map (·.1)) h.dn h.dm
  rw [List.length_map] at this
  exact this
theorem Bw.lt (h : Bw W wr B g r hh up Di D rows) {k : Int} (hm : k ∈ up.map (·.1)) (hk : k ∉ D) : D.length < up.length := by
  have h2 := nodup_le (D ++ [k]) (up.map (·.1)) (List.nodup_append.2 ⟨h.dn, by simp, fun a ha b hb e => by simp at hb; subst hb; subst e; exact hk ha⟩) (fun x hx => by
    rcases List.mem_append.1 hx with q | q
    · exact h.dm x q
    · simp at q; subst q; exact hm)
  simp at h2
  omega
theorem own_cells {w : World} {v : Value} {n : Nat} {xs : List Value} (h : w.ownsRow B 3 1 v n xs) {x : Nat} (hx : v.ownBlock = some x) : ∃ cs, w.heap[x]? = some cs ∧ ∀ es c, cs ≠ .map es c := by
  rcases h.2 with ⟨hv, _⟩ | ⟨g2, _, _, hv, _, hg2, _⟩
  · rw [hv] at hx; cases hx
  · rw [hv] at hx
    have e : g2 = x := by simpa [Value.ownBlock] using hx
    subst e
    exact ⟨_, hg2, fun es c e => by cases e⟩
theorem own_not_map {w : World} {v : Value} {n : Nat} {xs : List Value} (h : w.ownsRow B 3 1 v n xs) {m : List (Int × Value)} (hm : MpAt w hh m) : v.ownBlock ≠ some hh := fun hx => by
  obtain ⟨cs, h1, h2⟩ := own_cells h hx
  obtain ⟨_, es, c, hb, _⟩ := hm
  rw [hb] at h1
  exact h2 es c (Option.some.inj h1).symm
theorem own_not_mapK {w : World} {v : Value} {n : Nat} {xs : List Value} (h : w.ownsRow B 3 1 v n xs) {m : List (Int × Value)} (hm : MpK kvI w g m) : v.ownBlock ≠ some g := fun hx => by
  obtain ⟨cs, h1, h2⟩ := own_cells h hx
  obtain ⟨_, es, c, hb, _⟩ := hm
  rw [hb] at h1
  exact h2 es c (Option.some.inj h1).symm
theorem Bw.next (h : Bw W wr B g r hh up D D rows) :
    ((∀ k ∈ up.map (·.1), k ∈ D) ∧ ∀ ty, (Instr.next (.pointer (some ⟨r, 0, none⟩)) false ty).run Tryz.prog wr = .ok (.tuple #[.bool false]) wr) ∨
    ∃ k x w5, lookI up k = some x ∧ (∀ ty, (Instr.next (.pointer (some ⟨r, 0, none⟩)) false ty).run Tryz.prog wr = .ok (.tuple #[.bool true, .int .i64 k, .int .i64 x]) w5) ∧
      (Instr.entry (.pointer (some ⟨r, 0, none⟩))).run Tryz.prog w5 = .ok (.tuple #[.int .i64 k, .int .i64 x]) w5 ∧ Bw W w5 B g r hh up (D ++ [k]) D rows ∧ k ∈ up.map (·.1) ∧ k ∉ D := by
  rcases h.it.next (P := Tryz.prog) with ⟨hall, hrun⟩ | ⟨k, x, w5, hkm, hkD, hrun, hit5, hent, w5', o5, hw5', hw5⟩
  · refine .inl ⟨fun k hk => ?_, hrun⟩
    rw [← upV_keys] at hk
    obtain ⟨p, hp, rfl⟩ := List.mem_map.1 hk
    exact hall p hp
  · obtain ⟨y, rfl, hy⟩ := upV_mem hkm
    have hnd : (up.map (·.1)).Nodup := by rw [← upV_keys]; exact h.it.nodup
    have hblk : ∀ b, b ≠ r → w5.heap[b]? = wr.heap[b]? := fun b hb => by
      rw [hw5, setB_other hb]
      rcases hw5' with rfl | rfl <;> rfl
    refine .inr ⟨k, y, w5, lookI_mem hnd hy, hrun, hent, ⟨hit5, ?_, h.lo, h.ne, h.mp.of_block (hblk _ h.ne.1), fun k v hv => row_at (h.row k v hv) (fun z hz => hblk z (h.off k v hv z hz)), h.off, h.dis, h.dn, h.dm, h.ks⟩, List.mem_map.2 ⟨_, hy, rfl⟩, hkD⟩
    rw [hw5]
    refine setB_below ?_ h.lo.1 _
    rcases hw5' with rfl | rfl
    · exact h.bel
    · exact h.bel.trans (show Below W.heap.size wr wr.drew from ⟨rfl, rfl, rfl, Nat.le_refl _, fun _ _ => rfl⟩)
theorem setMap_other {w : World} {b : Nat} (hb : b ≠ hh) (o : Obj) : (setMap w hh o).heap[b]? = w.heap[b]? := by simp [setMap, Array.getElem?_setIfInBounds_ne (Ne.symm hb)]
/-- One more comes into its row. -/
theorem Bw.take {k : Int} (h : Bw W wr B g r hh up (D ++ [k]) D rows) {x : Int} (hx : lookI up k = some x) (hm : k ∈ up.map (·.1)) (hkD : k ∉ D) (o : Obj) {w6 : World} {v' : Value}
    (ha : Appended B 3 (wr.alloc o) w6 (rowOf rows x) v' ((chl up D x).length + 1) ((chl up D x).map cellI ++ [cellI k])) :
    ∃ w7, (Instr.mapUpdate 105 (.map (some hh)) (.int .i64 x) v').run Tryz.prog w6 = .ok () w7 ∧ Bw W w7 B g r hh up (D ++ [k]) (D ++ [k]) (put rows x v') := by
  have hg := ha.grown
  have hr0 := h.get x
  have hoff : ∀ z, (rowOf rows x).ownBlock = some z → z ≠ r := fun z hz => by
    unfold rowOf at hz
    cases hq : look rows x with
    | none => rw [hq] at hz; cases hz
    | some v => rw [hq] at hz; exact h.off x v hq z hz
  have hgb : ∀ b, b < wr.heap.size → (rowOf rows x).ownBlock ≠ some b → w6.heap[b]? = wr.heap[b]? := fun b hb hv => (hg.block b (by simp; omega) (fun e => hv e.symm)).trans (Below.heap_alloc _ _ _ hb)
  have hgl := h.it.mp.lt
  have hrl := h.it.lt
  have hhl := h.mp.lt
  have h6 : MpAt w6 hh rows := h.mp.of_block (hgb hh hhl (own_not_map hr0 h.mp))
  obtain ⟨o', hrun, hmp⟩ := run_put (P := Tryz.prog) h6 Tryz.underlying105 Tryz.underlying3 x v'
  have hv'h : v'.ownBlock ≠ some hh := own_not_map ha.row h6
  have hvlt : ∀ z, v'.ownBlock = some z → (rowOf rows x).ownBlock = some z ∨ wr.heap.size < z := fun z hz => by
    rcases ha.new z hz with e | e
    · exact .inl e
    · simp at e; exact .inr (by omega)
  have hold : ∀ k' v, look rows k' = some v → k' ≠ x → ∀ z, v.ownBlock = some z → z < wr.heap.size ∧ z ≠ hh ∧ (rowOf rows x).ownBlock ≠ some z := fun k' v hv hne z hz => by
    refine ⟨(World.ownsRow.lt (h.row k' v hv) z hz).2, fun e => own_not_map (h.row k' v hv) h.mp (by rw [hz, e]), fun e => ?_⟩
    unfold rowOf at e
    cases hq : look rows x with
    | none => rw [hq] at e; cases e
    | some u => rw [hq] at e; exact h.dis k' v x u hv hq hne z hz e
  have hnh : ∀ z, v'.ownBlock = some z → z ≠ hh := fun z hz e => hv'h (by rw [hz, e])
  refine ⟨_, hrun, ⟨h.it.of_blocks ((setMap_other (Ne.symm h.ne.2) _).trans (hgb g hgl (own_not_mapK hr0 h.it.mp))) ((setMap_other (Ne.symm h.ne.1) _).trans (hgb r hrl (fun e => hoff r e rfl))), ?_, h.lo, h.ne, hmp, ?_, ?_, ?_, ?_, ?_, ?_⟩⟩
  · have b1 : Below W.heap.size W (wr.alloc o) := h.bel.alloc h.bel.size o
    have b2 : Below W.heap.size W w6 := b1.grown hg b1.size (fun k hk => by
      have := (World.ownsRow.lt hr0 k hk).1
      have := h.lo.2.1
      omega)
    exact setB_below b2 h.lo.2.2 o'
  · intro k' v hv
    rw [look_put] at hv
    by_cases e : k' = x
    · rw [if_pos e] at hv
      obtain rfl := Option.some.inj hv
      subst e
      rw [chl_yes hx, List.map_append, List.length_append]
      exact row_at ha.row (fun z hz => setMap_other (hnh z hz) _)
    · rw [if_neg e] at hv
      rw [chl_no (fun e2 => e (by rw [hx] at e2; exact (Option.some.inj e2).symm))]
      refine row_at (h.row k' v hv) (fun z hz => ?_)
      obtain ⟨h1, h2, h3⟩ := hold k' v hv e z hz
      exact (setMap_other h2 _).trans (hgb z h1 h3)
  · intro k' v hv z hz
    rw [look_put] at hv
    by_cases e : k' = x
    · rw [if_pos e] at hv
      obtain rfl := Option.some.inj hv
      rcases hvlt z hz with q | q
      · exact hoff z q
      · omega
    · rw [if_neg e] at hv
      exact h.off k' v hv z hz
  · intro k1 v1 k2 v2 h1 h2 hne z hz1 hz2
    rw [look_put] at h1 h2
    by_cases e1 : k1 = x
    · rw [if_pos e1] at h1
      obtain rfl := Option.some.inj h1
      have e2 : ¬ k2 = x := fun e => hne (by rw [e1, e])
      rw [if_neg e2] at h2
      obtain ⟨q1, q2, q3⟩ := hold k2 v2 h2 e2 z hz2
      rcases hvlt z hz1 with q | q
      · exact q3 q
      · omega
    · rw [if_neg e1] at h1
      by_cases e2 : k2 = x
      · rw [if_pos e2] at h2
        obtain rfl := Option.some.inj h2
        obtain ⟨q1, q2, q3⟩ := hold k1 v1 h1 e1 z hz1
        rcases hvlt z hz2 with q | q
        · exact q3 q
        · omega
      · rw [if_neg e2] at h2
        exact h.dis k1 v1 k2 v2 h1 h2 hne z hz1 hz2
  · exact List.nodup_append.2 ⟨h.dn, by simp, fun a ha' b hb e => by simp at hb; subst hb; subst e; exact hkD ha'⟩
  · intro y hy
    rcases List.mem_append.1 hy with z | z
    · exact h.dm y z
    · simp at z; subst z; exact hm
  · intro k' hk'
    rw [look_put] at hk'
    by_cases e : k' = x
    · rw [if_pos e] at hk'; cases hk'
    · rw [if_neg e] at hk'
      rw [chl_no (fun e2 => e (by rw [hx] at e2; exact (Option.some.inj e2).symm))]
      exact h.ks k' hk'
end
end Go.Proofs.YtmajlldfiiokoaaGreatDoor

/- tree.Tree.below. -/
namespace Go.Proofs.YtmajlldfiiokoaaGreatDoor
open Go.ChangeShapes Go.WideShapes Go.ChangeAt Go.RowKit Go.Deep
open Go.ChangeMaps (setBlock)
set_option linter.unusedVariables false

theorem own_shape {w : World} {B n : Nat} {v : Value} {xs : List Value} (h : w.ownsRow B 3 1 v n xs) : ∃ a c, v = .slice a n c ∧ (a = none → n = 0) := by
  rcases h.2 with ⟨hv, h0⟩ | ⟨g, cap, cur, hv, _⟩
  · exact ⟨none, 0, by rw [hv, h0], fun _ => h0⟩
  · exact ⟨_, _, hv, fun e => by cases e⟩
theorem clone_own (B : Nat) (w : World) (a : Option Addr) (n c : Nat) (l : List Int) (hr : w.ownsRow B 3 1 (.slice a n c) n (l.map cellI)) (hi : ∀ x ∈ l, i64 x) (hn : n ≤ 100000) :
    Calls Tryz.prog 99 #[.slice a n c] w fun e w' => (∃ v', e = .returned v' ∧ w'.ownsRow w.heap.size 3 1 v' n (l.map cellI)) ∧ Below w.heap.size w w' := by
  have hl : l.length = n := by have := hr.1; simpa using this
  have hin := in_of_own hr hi (by omega)
  rcases a with _ | ⟨b, o, sp⟩
  · have h0 : n = 0 := by
      rcases hr.2 with ⟨_, e⟩ | ⟨g, cap, cur, hv, _⟩
      · exact e
      · simp at hv
    refine (Tryz.slices_Clone_int_nil n c w).mono ?_
    rintro e w' ⟨rfl, rfl⟩
    have hl0 : l = [] := List.eq_nil_of_length_eq_zero (by omega)
    subst hl0; subst h0
    exact ⟨⟨_, rfl, World.ownsRow_nil _ _ _ _⟩, Below.refl _ _⟩
  · rcases hr.2 with ⟨e, _⟩ | ⟨g, cap, cur, hv, hb, hg, hnc, hmx, hsz, hcs⟩
    · cases e
    · simp at hv
      obtain ⟨⟨rfl, rfl, rfl⟩, rfl⟩ := hv
      refine (Tryz.slices_Clone_int b 0 n c l w (by omega) (by omega) (fun j hj => ?_)).mono ?_
      · obtain ⟨mb, mo, hmb, _, _, hc⟩ := hin.one (v := Value.int .i64) (fun _ => rfl) (i := j) (by omega)
        simp at hmb
        obtain ⟨rfl, rfl⟩ := hmb
        exact hc
      · rintro e w' ⟨v', rfl, h1, _, h2⟩
        rw [List.take_of_length_le (by omega)] at h1
        exact ⟨⟨v', rfl, h1⟩, h2⟩
section
variable {W wr : World} {B g r hh : Nat} {up : List (Int × Int)} {Di D : List Int} {rows : List (Int × Value)}
theorem zero_rows (w : World) : (zeroValue 24).run Tryz.prog w = .ok (.slice none 0 0) w := by kernel_rfl
theorem ask_rows (h : MpAt wr hh rows) (x : Int) : (Instr.lookup 105 (.map (some hh)) (.int .i64 x) false).run Tryz.prog wr = .ok (rowOf rows x) wr := by
  unfold rowOf
  cases hq : look rows x with
  | none => exact (run_look_none (P := Tryz.prog) h Tryz.underlying105 Tryz.underlying3 (zero_rows wr) hq).2
  | some v => exact (run_look_some (P := Tryz.prog) h Tryz.underlying105 Tryz.underlying3 hq).2
end
/-- On the way down: the row of those that were met. -/
structure Dn (W5 wr : World) (t : Tr) (D : List Int) (v : Value) (m i : Nat) (M : List Int) : Prop where
  ln : M.length = m
  mt : Met t D M i
  row : wr.ownsRow W5.heap.size 3 1 v m (M.map cellI)
  bel : Below W5.heap.size W5 wr

set_option maxRecDepth 100000 in
set_option maxHeartbeats 4000000 in
theorem below_any (t : Tr) (g : Nat) (w : World) (h : UpAt w g t.up) (hl : t.up.length ≤ 100000) (hi : ∀ k ∈ t.up.map (·.1), i64 k) (hr : lookI t.up t.root = none) :
    Calls Tryz.prog 50 #[.agg #[.int .i64 t.root, .map (some g)]] w fun e w' => e = .returned (.int .i64 (belN t)) ∧ Below w.heap.size w w' := by
  obtain ⟨i0, hif, hz0, hz1, hz2⟩ := info_of Tryz.infoInt
  obtain ⟨root, up⟩ := t
  simp only at h hl hi hr ⊢
  obtain ⟨q, hq⟩ : ∃ q, q = w.heap.size := ⟨_, rfl⟩
  obtain ⟨W, hW⟩ : ∃ W, W = w.alloc (.cells #[.int .i64 root, .map (some g)] 43) := ⟨_, rfl⟩
  have hbW : Below w.heap.size w W := by rw [hW]; exact below_one _ _
  have c0 : W.cell? ⟨q, 0, none⟩ = some (.int .i64 root) := by rw [hW, hq]; exact World.cell?_alloc_new ..
  have c1 : W.cell? ⟨q, 1, none⟩ = some (.map (some g)) := by rw [hW, hq]; simp
  have hU : UpAt W g up := h.below hbW
  have hnd : (up.map (·.1)).Nodup := by rw [← upV_keys]; exact h.1
  have HW : Hid (Below w.heap.size w W ∧ UpAt W g up) := ⟨hbW, hU⟩
  have HI : Hid ((∀ k ∈ up.map (·.1), i64 k) ∧ (up.map (·.1)).Nodup ∧ up.length ≤ 100000 ∧ lookI up root = none) := ⟨hi, hnd, hl, hr⟩
  clear h hi hnd hbW hr hU
  have hmm := @run_makeMap Tryz.prog
  obtain ⟨hh, hhh⟩ : ∃ q, q = W.heap.size := ⟨_, rfl⟩
  obtain ⟨W1, hW1⟩ : ∃ W1, W1 = W.alloc (.map #[] 0) := ⟨_, rfl⟩
  obtain ⟨o, hrun, hit⟩ := (HW.out.2.below (w' := W1) (by rw [hW1]; exact below_one _ _)).start (P := Tryz.prog) Tryz.underlying41
  obtain ⟨r, hrr⟩ : ∃ r, r = W1.heap.size := ⟨_, rfl⟩
  obtain ⟨W2, hW2⟩ : ∃ W2, W2 = W1.alloc o := ⟨_, rfl⟩
  have d1 : W1.cell? ⟨q, 1, none⟩ = some (.map (some g)) := by rw [hW1]; exact cell_grown c1 (below_one _ _)
  have dl := cell_block d1
  rw [← hW2, ← hrr] at hrun hit
  have H2 : Hid (Bw W W2 W.heap.size g r hh up [] [] []) := by
    have b2 : Below W.heap.size W W2 := by rw [hW2, hW1]; exact (below_one _ _).trans ((below_one _ _).mono (by simp))
    have hr1 : r = W.heap.size + 1 := by rw [hrr, hW1]; simp
    refine ⟨hit, b2, ⟨by omega, Nat.le_refl _, by omega⟩, ⟨by omega, ?_⟩, ?_, fun k v hv => (by cases hv), fun k v hv => (by cases hv), fun k v k' v' hv => (by cases hv), List.nodup_nil, fun k hk => (by cases hk), fun k _ => rfl⟩
    · have := HW.out.2.lt; omega
    · rw [hW2, hhh]
      refine (show MpAt W1 W.heap.size [] by rw [hW1]; exact MpAt.made W).of_block (Below.heap_alloc _ _ _ (by rw [hW1]; simp))
  clear hit
  have e0 : Hid (Below W.heap.size W W2) := H2.out.bel
  go_enter Tryz.func50, Tryz.ntmps50
  go_upto_region 1 with fail
  rw [← hW]
  try rw [← hq]
  clear hW hq
  go_upto_region 2 with fail
  rw [← hW1, ← hhh]
  clear hW1 hhh hmm hW2 hrr
  go_wp2
  clear hrun d1 dl
  go_loopg [] up.length (fun kx wr => Hid (∃ D rows, kx = up.length - D.length ∧ Bw W wr W.heap.size g r hh up D D rows))
  case atStart => exact ⟨[], [], rfl, H2.out⟩
  case round =>
    obtain ⟨D, rows, hkx, hd⟩ := hrel.out
    have HKX : Hid (_ = up.length - D.length) := hkx
    have HD : Hid (Bw W wr W.heap.size g r hh up D D rows) := hd
    clear hrel hkx hd
    rcases HD.out.next with ⟨hall, hrun⟩ | ⟨k, x, w5, hlk, hrun, hent, hb5, hkm, hkD⟩
    · have HAL : Hid (∀ k ∈ up.map (·.1), k ∈ D) := hall
      clear hall
      have f0 := cell_grown c0 HD.out.bel
      have hask := ask_rows HD.out.mp root
      have hrow := HD.out.get root
      obtain ⟨va, vc, hv, hvn⟩ := own_shape hrow
      obtain ⟨m0, hm0⟩ : ∃ m, m = (chl up D root).length := ⟨_, rfl⟩
      rw [← hm0] at hv hvn hrow
      rw [hv] at hask hrow
      have HDN : Hid (∀ x ∈ D, i64 x) := fun x hx => HI.out.1 x (HD.out.dm x hx)
      have HC : Hid _ := clone_own W.heap.size wr va m0 vc (chl up D root) hrow (fun x hx => HDN.out x (mem_chl.1 hx).1) (by have := chl_len up D root; have := HD.out.len; have := HI.out.2.2.1; omega)
      have HM0 : Hid (m0 = (chl up D root).length) := hm0
      clear hrow hv hvn hm0
      have fl := cell_block f0
      go_wp2_with fail
      refine Calls.mono HC.out ?_
      clear HC
      rintro e w6 ⟨⟨v6, rfl, hr6⟩, b6⟩
      obtain ⟨xa, xc, rfl, _⟩ := own_shape hr6
      have H6 : Hid (Dn wr w6 ⟨root, up⟩ D (.slice xa m0 xc) m0 0 (chl up D root)) := ⟨HM0.out.symm, Met.start HD.out.dn HI.out.2.2.2, hr6, b6⟩
      clear hr6 b6 hask f0 fl c0 c1 hrun
      have hm00 : m0 ≤ up.length := by have := H6.out.mt.len; have := H6.out.ln; have := HD.out.len; omega
      go_wp2
      go_loopg [6, 7] up.length (fun kx v s wz => ∃ (i m : Nat) (a : Option Addr) (c : Nat), v = .slice a m c ∧ s = .int .i64 i ∧ i ≤ m ∧ m ≤ up.length ∧ kx = up.length - i ∧ Hid (∃ M, Dn wr wz ⟨root, up⟩ D (.slice a m c) m i M))
      case atStart => exact ⟨0, m0, xa, xc, rfl, rfl, Nat.zero_le _, hm00, rfl, ⟨_, H6.out⟩⟩
      case round =>
        rename World => wz
        obtain ⟨i, m, a, c, rfl, rfl, him, hml, rfl, HB⟩ := hrel
        obtain ⟨M, hd⟩ := HB.out
        have HN : Hid (Dn wr wz ⟨root, up⟩ D (.slice a m c) m i M) := hd
        clear HB hd
        by_cases hlt : i < m
        · have hltI : (i : Int) < (m : Int) := by omega
          have hin := in_of_own HN.out.row (fun x hx => HDN.out x (HN.out.mt.has hx).1) (by omega)
          obtain ⟨mb, mo, hmb, hmlk, _, hmc⟩ := hin.one (v := Value.int .i64) (fun _ => rfl) (i := i) hlt
          subst hmb
          obtain ⟨y, hy⟩ : ∃ y, y = M.getD i 0 := ⟨_, rfl⟩
          rw [← hy] at hmc
          have HY : Hid (y = M.getD i 0) := hy
          clear hy hin
          have hmz : MpAt wz hh rows := HD.out.mp.of_block (HN.out.bel.block _ HD.out.mp.lt)
          have hask := ask_rows hmz y
          have hrow : wz.ownsRow W.heap.size 3 1 (rowOf rows y) (chl up D y).length ((chl up D y).map cellI) := row_at (HD.out.get y) (fun z hz => HN.out.bel.block _ (World.ownsRow.lt (HD.out.get y) z hz).2)
          obtain ⟨va2, vc2, hv, hvn⟩ := own_shape hrow
          obtain ⟨m2, hm2⟩ : ∃ m, m = (chl up D y).length := ⟨_, rfl⟩
          rw [← hm2] at hv hvn hrow
          rw [hv] at hask hrow
          have hstep := HN.out.mt.step HD.out.dn HI.out.2.2.2 (by rw [HN.out.ln]; exact hlt)
          rw [← HY.out] at hstep
          have HS : Hid (Met ⟨root, up⟩ D (M ++ chl up D y) (i + 1)) := hstep
          have HSR : Hid (Src Tryz.prog 1 24 (.slice va2 m2 vc2) m2 ((chl up D y).map cellI) wz) :=
            src_ints (in_of_own hrow (fun x hx => HDN.out x (mem_chl.1 hx).1) (by have := chl_len up D y; have := HD.out.len; omega)) hvn
          have HM2 : Hid (m2 = (chl up D y).length) := hm2
          have hmm2 : m + m2 ≤ up.length := by
            have := HS.out.len; rw [List.length_append, HN.out.ln, ← hm2] at this; have := HD.out.len; omega
          have HSz : Hid (wr.heap.size ≤ wz.heap.size) := HN.out.bel.size
          have HA : Hid (wz.ownsRow wr.heap.size 3 1 (.slice (some ⟨mb, mo, none⟩) m c) m (M.map cellI)) := HN.out.row
          clear hrow hv hvn hm2 hstep hmz
          go_wp2_with (at_builtin; go_loud (refine wpList_own_append _ rfl _ _ 24 24 rfl wr.heap.size 3 i0 _ 8 Tryz.underlying24 hif hz0 hz1 hz2 rfl _ _ _ rfl HA.out _ m2 _ rfl HSR.out (by unfold maxLen; omega) (by omega) (by have := HSz.out; simp; omega) ?_))
          intro v' w7 ha
          obtain ⟨x7, k7, rfl⟩ := ha.shape
          have H7 : Hid (Dn wr w7 ⟨root, up⟩ D (.slice x7 (m + m2) k7) (m + m2) (i + 1) (M ++ chl up D y)) := by
            refine ⟨by rw [List.length_append, HN.out.ln, HM2.out], HS.out, by rw [List.map_append]; exact ha.row, HN.out.bel.grown ha.grown HN.out.bel.size (fun k hk => (World.ownsRow.lt HA.out k hk).1)⟩
          clear ha HA HSR hask hmc hmlk
          go_wp2
          go_roundg (up.length - (i + 1))
          case measure => omega
          case rel => exact ⟨i + 1, m + m2, x7, k7, rfl, by go_num, by omega, hmm2, rfl, ⟨_, H7.out⟩⟩
        · obtain rfl : i = m := by omega
          have hfin := (show Met ⟨root, up⟩ D M M.length by have := HN.out.mt; rw [HN.out.ln]; exact this).num HI.out.2.1 HI.out.2.2.2 (fun x => ⟨HD.out.dm x, HAL.out x⟩)
          rw [HN.out.ln] at hfin
          have HF : Hid (i = belN ⟨root, up⟩) := hfin
          have HE : Hid (Below w.heap.size w wz) := by
            have b := HW.out.1.trans (HD.out.bel.mono HW.out.1.size)
            exact b.trans (HN.out.bel.mono b.size)
          clear hfin
          go_wp2
          go_ret
          exact ⟨congrArg (fun k : Nat => Ending.returned (.int .i64 (k : Int))) HF.out, HE.out⟩
    · have hask := ask_rows hb5.mp x
      have hrow := hb5.get x
      obtain ⟨va, vc, hv, hvn⟩ := own_shape hrow
      obtain ⟨m0, hm0⟩ : ∃ m, m = (chl up D x).length := ⟨_, rfl⟩
      have hm1 : m0 ≤ 100000 := by have := chl_len up D x; have := HD.out.len; omega
      rw [← hm0] at hv hvn hrow
      have hrow2 : (w5.alloc (.cells #[.int .i64 k] 3)).ownsRow W.heap.size 3 1 (rowOf rows x) m0 ((chl up D x).map cellI) := row_at hrow (fun z hz => Below.heap_alloc _ _ _ (World.ownsRow.lt hrow z hz).2)
      have HV : Hid (rowOf rows x = .slice va m0 vc ∧ m0 = (chl up D x).length) := ⟨hv, hm0⟩
      rw [hv] at hask hrow2
      have HA : Hid _ := hrow2
      have H5 : Hid (Bw W w5 W.heap.size g r hh up (D ++ [k]) D rows ∧ lookI up k = some x ∧ k ∈ up.map (·.1) ∧ k ∉ D) := ⟨hb5, hlk, hkm, hkD⟩
      have HSz : Hid (W.heap.size ≤ w5.heap.size) := hb5.bel.size
      clear hrow hrow2 hv hvn hm0 hb5 hlk hkm hkD
      go_wp2_with (at_builtin; go_loud (refine wpList_own_append _ rfl _ _ 24 24 rfl W.heap.size 3 i0 _ 8 Tryz.underlying24 hif hz0 hz1 hz2 rfl _ _ _ rfl HA.out _ 1 [cellI k] rfl (src_oneT w5 k) (by unfold maxLen; omega) (by omega) (by have := HSz.out; simp; omega) ?_))
      intro v' w6 ha
      obtain ⟨x6, k6, rfl⟩ := ha.shape
      obtain ⟨w7, hupd, hb7⟩ := H5.out.1.take H5.out.2.1 H5.out.2.2.1 H5.out.2.2.2 _ (by rw [HV.out.1, ← HV.out.2]; exact ha)
      have H7 : Hid (∃ rows', Bw W w7 W.heap.size g r hh up (D ++ [k]) (D ++ [k]) rows') := ⟨_, hb7⟩
      clear ha hb7 HA hask hrun hent
      go_wp2
      go_roundg (up.length - (D.length + 1))
      case measure => have := H5.out.1.lt H5.out.2.2.1 H5.out.2.2.2; have := HKX.out; omega
      case rel => exact (let ⟨rows', h⟩ := H7.out; ⟨D ++ [k], rows', by simp, h⟩ : ∃ D' rows', up.length - (D.length + 1) = up.length - D'.length ∧ Bw W w7 W.heap.size g r hh up D' D' rows')
end Go.Proofs.YtmajlldfiiokoaaGreatDoor

/- tree.Tree.Check. -/
namespace Go.Proofs.YtmajlldfiiokoaaGreatDoor
open Go.ChangeShapes Go.WideShapes Go.ChangeAt Go.RowKit Go.Deep
set_option linter.unusedVariables false

/-- What Check says of a tree; ro: whom the circle has as the owner. -/
inductive ChkIs (t : Tr) (ro : Int) : Int → Prop where
  | none : t.root = -1 → t.up = [] → ChkIs t ro 0
  | some : t.root = -1 → t.up ≠ [] → ChkIs t ro 11
  | tells : t.root ≠ -1 → (∃ v, lookI t.up t.root = Option.some v) → ChkIs t ro 11
  | other : t.root ≠ -1 → lookI t.up t.root = Option.none → ro ≠ t.root → ChkIs t ro 11
  | calm : t.root ≠ -1 → lookI t.up t.root = Option.none → ro = t.root → (∀ x, x ∈ t.up.map (·.1) → ∃ k, t.rch k x) → ChkIs t ro 0
  | round : t.root ≠ -1 → lookI t.up t.root = Option.none → ro = t.root → (∃ x, x ∈ t.up.map (·.1) ∧ ∀ k, ¬ t.rch k x) → ChkIs t ro 13
def chkV (c : Int) : Value := if c = 0 then .nilIface else .iface 116 (.int .i64 c)

set_option maxRecDepth 100000 in
set_option maxHeartbeats 4000000 in
theorem check_any (t : Tr) (g : Nat) (gc n c : Nat) (b : Option Addr) (d : Nat) (s : ByteArray) (ro cd : Int) (w : World) (h : UpAt w g t.up) (hl : t.up.length ≤ 100000) (hi : ∀ k ∈ t.up.map (·.1), i64 k) (hs : s.size ≤ 200)
    (ho : ∀ W', Below w.heap.size w W' → Calls Tryz.prog 33 #[.agg #[.slice (some ⟨gc, 0, none⟩) n c, .slice b n d], .int .u64 (gkeyT s)] W' fun e w9 => e = .returned (.int .i64 ro) ∧ Below W'.heap.size W' w9) (hc : ChkIs t ro cd) :
    Calls Tryz.prog 17 #[.agg #[.int .i64 t.root, .map (some g)], .agg #[.slice (some ⟨gc, 0, none⟩) n c, .slice b n d], .string s] w fun e w' => e = .returned (chkV cd) ∧ Below w.heap.size w w' := by
  obtain ⟨root, up⟩ := t
  simp only at h hl hi
  obtain ⟨q, hq⟩ : ∃ q, q = w.heap.size := ⟨_, rfl⟩
  obtain ⟨W, hW⟩ : ∃ W, W = (w.alloc (.cells #[.int .i64 root, .map (some g)] 43)).alloc (.cells #[.slice (some ⟨gc, 0, none⟩) n c, .slice b n d] 50) := ⟨_, rfl⟩
  have b1 : Below w.heap.size w (w.alloc (.cells #[.int .i64 root, .map (some g)] 43)) := below_one _ _
  have b2 : Below (w.alloc (.cells #[.int .i64 root, .map (some g)] 43)).heap.size (w.alloc (.cells #[.int .i64 root, .map (some g)] 43)) W := by rw [hW]; exact below_one _ _
  have bW : Below w.heap.size w W := b1.trans (b2.mono b1.size)
  have c0 : W.cell? ⟨q, 0, none⟩ = some (.int .i64 root) := cell_grown (by rw [hq]; exact World.cell?_alloc_new ..) b2
  have c1 : W.cell? ⟨q, 1, none⟩ = some (.map (some g)) := cell_grown (by rw [hq]; simp) b2
  have d0 : W.cell? ⟨q + 1, 0, none⟩ = some (.slice (some ⟨gc, 0, none⟩) n c) := by rw [hW, show q + 1 = (w.alloc (.cells #[.int .i64 root, .map (some g)] 43)).heap.size by rw [hq]; simp]; exact World.cell?_alloc_new ..
  have d1 : W.cell? ⟨q + 1, 1, none⟩ = some (.slice b n d) := by rw [hW, hq]; simp
  have HB : Hid (Below w.heap.size w W) := bW
  have HU : Hid (UpAt W g up) := h.below bW
  have HI : Hid ((∀ k ∈ up.map (·.1), i64 k) ∧ up.length ≤ 100000 ∧ s.size ≤ 200) := ⟨hi, hl, hs⟩
  have HO : Hid (∀ W', Below w.heap.size w W' → Calls Tryz.prog 33 #[.agg #[.slice (some ⟨gc, 0, none⟩) n c, .slice b n d], .int .u64 (gkeyT s)] W' fun e w9 => e = .returned (.int .i64 ro) ∧ Below W'.heap.size W' w9) := ho
  have cl := cell_block c0
  have dl := cell_block d0
  clear h hl hi hs ho b1 b2 bW
  obtain ⟨ι, F, _, hF0, hFb, hFc⟩ := grown_fam W
  have g0 : ∀ i, (F i).cell? ⟨q, 0, none⟩ = _ := fun i => cell_grown c0 (hFb i)
  have g1 : ∀ i, (F i).cell? ⟨q, 1, none⟩ = _ := fun i => cell_grown c1 (hFb i)
  have g2 : ∀ i, (F i).cell? ⟨q + 1, 0, none⟩ = _ := fun i => cell_grown d0 (hFb i)
  have g3 : ∀ i, (F i).cell? ⟨q + 1, 1, none⟩ = _ := fun i => cell_grown d1 (hFb i)
  have HF : Hid ((∃ i, { W with drawn := W.drawn + 1 } = F i) ∧ (∀ i, Below W.heap.size W (F i)) ∧ (∀ i W', Below W.heap.size (F i) W' → ∃ j, W' = F j)) := ⟨hF0, hFb, hFc⟩
  have HFT : Hid (∀ i, Calls Tryz.prog 49 #[.agg #[.int .i64 root, .map (some g)], .int .i64 root] (F i) fun e w' => e = .returned (.bool (lookI up root).isSome) ∧ ∃ k, w' = F k) := fun i =>
    (tells_any root g up root (F i) (HU.out.below (hFb i))).mono (fun e w' z => ⟨z.1, hFc i w' (z.2.mono (hFb i).size)⟩)
  have HFK : Hid (∀ i, Calls Tryz.prog 34 #[.string s] (F i) fun e w' => e = .returned (.int .u64 (gkeyT s)) ∧ ∃ k, w' = F k) := fun i =>
    (gkey_t s (F i) HI.out.2.2).mono (fun e w' z => ⟨z.1, i, z.2⟩)
  have HFO : Hid (∀ i, Calls Tryz.prog 33 #[.agg #[.slice (some ⟨gc, 0, none⟩) n c, .slice b n d], .int .u64 (gkeyT s)] (F i) fun e w' => e = .returned (.int .i64 ro) ∧ ∃ k, w' = F k) := fun i =>
    (HO.out (F i) (HB.out.trans ((hFb i).mono HB.out.size))).mono (fun e w' z => ⟨z.1, hFc i w' (z.2.mono (hFb i).size)⟩)
  clear hF0 hFb hFc HO
  have hlen := fun ty => HU.out.len (P := Tryz.prog) Tryz.underlying41 ty
  have hul : (upV up).length = up.length := by simp [upV]
  rw [hul] at hlen
  go_enter Tryz.func17, Tryz.ntmps17
  go_upto_region 1 with fail
  rw [← hW]
  try rw [← hq]
  clear hW hq
  by_cases hr : root = -1
  · have e1 : (root == -1) = true := by simpa using hr
    cases hc with
    | none h1 h2 =>
      have hz : (up.length : Int) = 0 := by simp only at h2; rw [h2]; rfl
      have hz2 : ¬ (0 : Int) < (up.length : Int) := by omega
      clear h1 h2 hr hul hz
      go_wp2
      go_ret
      exact ⟨rfl, HB.out⟩
    | some h1 h2 =>
      have hz : (0 : Int) < (up.length : Int) := by
        simp only at h2
        cases up with
        | nil => exact absurd rfl h2
        | cons p m => simp
      clear h1 h2 hr hul
      go_wp2
      go_ret
      exact ⟨rfl, HB.out⟩
    | tells h1 _ => exact absurd hr h1
    | other h1 _ _ => exact absurd hr h1
    | calm h1 _ _ _ => exact absurd hr h1
    | round h1 _ _ _ => exact absurd hr h1
  · have e1 : (root == -1) = false := by simpa using hr
    clear hlen hul
    by_cases ht : ∃ v, lookI up root = Option.some v
    · have hcd : cd = 11 := by
        cases hc with
        | none h1 _ => exact absurd h1 hr
        | some h1 _ => exact absurd h1 hr
        | tells _ _ => rfl
        | other _ h2 _ => obtain ⟨v, hv⟩ := ht; exact absurd (hv.symm.trans h2) (by simp)
        | calm _ h2 _ _ => obtain ⟨v, hv⟩ := ht; exact absurd (hv.symm.trans h2) (by simp)
        | round _ h2 _ _ => obtain ⟨v, hv⟩ := ht; exact absurd (hv.symm.trans h2) (by simp)
      have het : (lookI up root).isSome = true := by obtain ⟨v, hv⟩ := ht; rw [hv]; rfl
      rw [het] at HFT
      subst hcd
      clear hc hr ht het
      go_upto_region 5 with fail
      go_cut [27] (fun v wx => v = .bool true ∧ Hid (Below W.heap.size W wx))
      case first =>
        refine wp_region_fam F HF.out.1 (by kernel_rfl) (by kernel_rfl) ?_
        repeat (go_big_quiet_step (first
          | (go_at_call 49; exact HFT.out _)))
        refine wpQuiet_nil ?_
        rintro _ ⟨i, rfl⟩
        have HB7 := HF.out.2.1 i
        go_wp2
        go_meet
        exact ⟨rfl, HB7⟩
      case rest =>
        rename World => W7
        obtain ⟨rfl, HC⟩ := hcut
        clear g0 g1 g2 g3 HF HFT HFK HFO
        go_wp2
        go_ret
        exact ⟨rfl, HB.out.trans (HC.out.mono HB.out.size)⟩
    · have het : (lookI up root).isSome = false := by
        cases hq : lookI up root with
        | none => rfl
        | some v => exact absurd ⟨v, hq⟩ ht
      have hno : lookI up root = Option.none := by
        cases hq : lookI up root with
        | none => rfl
        | some v => exact absurd ⟨v, hq⟩ ht
      rw [het] at HFT
      by_cases hro : ro = root
      · have HBL : Hid ((cd = 0 ∧ belN ⟨root, up⟩ = up.length) ∨ (cd = 13 ∧ belN ⟨root, up⟩ < up.length)) := by
          cases hc with
          | none h1 _ => exact absurd h1 hr
          | some h1 _ => exact absurd h1 hr
          | tells _ h2 => exact absurd h2 ht
          | other _ _ h3 => exact absurd hro h3
          | calm _ _ _ h4 => exact .inl ⟨rfl, belN_all h4⟩
          | round _ _ _ h4 => obtain ⟨x, h5, h6⟩ := h4; exact .inr ⟨rfl, belN_few h5 h6⟩
        have eo : (ro != root) = false := by simpa using hro
        have HNO : Hid (lookI up root = Option.none) := hno
        clear hc hr ht het hro hno
        go_upto_region 5 with fail
        go_cut [27] (fun v wx => v = .bool false ∧ Hid (Below W.heap.size W wx))
        case first =>
          refine wp_region_fam F HF.out.1 (by kernel_rfl) (by kernel_rfl) ?_
          repeat (go_big_quiet_step (first
            | (go_at_call 49; exact HFT.out _)
            | (go_at_call 34; exact HFK.out _)
            | (go_at_call 33; exact HFO.out _)))
          refine wpQuiet_nil ?_
          rintro _ ⟨i, rfl⟩
          have HB7 := HF.out.2.1 i
          go_wp2
          go_meet
          exact ⟨rfl, HB7⟩
        case rest =>
          rename World => W7
          obtain ⟨rfl, HC⟩ := hcut
          clear g0 g1 g2 g3 HF HFT HFK HFO
          have f0 := cell_grown c0 HC.out
          have f1 := cell_grown c1 HC.out
          have fl := cell_block f0
          have HU7 : Hid (UpAt W7 g up) := HU.out.below HC.out
          have HB7 : Hid (Below w.heap.size w W7) := HB.out.trans (HC.out.mono HB.out.size)
          clear c0 c1 cl d0 d1 dl HC
          obtain ⟨ι, F, _, hF0, hFb, hFc⟩ := grown_fam W7
          have g0 : ∀ i, (F i).cell? ⟨q, 0, none⟩ = _ := fun i => cell_grown f0 (hFb i)
          have g1 : ∀ i, (F i).cell? ⟨q, 1, none⟩ = _ := fun i => cell_grown f1 (hFb i)
          have hul : (upV up).length = up.length := by simp [upV]
          have hlen : ∀ i ty, (Builtin.len_ #[41] ty #[.map (some g)]).run Tryz.prog (F i) = .ok (.int .i64 up.length) (F i) := fun i ty => by
            have := (HU7.out.below (hFb i)).len (P := Tryz.prog) Tryz.underlying41 ty
            rw [hul] at this; exact this
          have HF : Hid ((∃ i, { W7 with drawn := W7.drawn + 1 } = F i) ∧ (∀ i, Below W7.heap.size W7 (F i))) := ⟨hF0, hFb⟩
          obtain ⟨bn, hbn⟩ : ∃ k, k = belN ⟨root, up⟩ := ⟨_, rfl⟩
          rw [← hbn] at HBL
          have HFB : Hid (∀ i, Calls Tryz.prog 50 #[.agg #[.int .i64 root, .map (some g)]] (F i) fun e w' => e = .returned (.int .i64 bn) ∧ ∃ k, w' = F k) := fun i =>
            (below_any ⟨root, up⟩ g (F i) (HU7.out.below (hFb i)) HI.out.2.1 HI.out.1 HNO.out).mono (fun e w' z => ⟨by rw [z.1, hbn], hFc i w' (z.2.mono (hFb i).size)⟩)
          clear hF0 hFb hFc hul hbn
          go_upto_region 7 with fail
          rcases HBL.out with ⟨hcd, hb⟩ | ⟨hcd, hb⟩
          · have hb2 : ¬ (bn : Int) < (up.length : Int) := by omega
            subst hcd
            clear hb HBL
            go_cut [34] (fun v wx => v = .bool false ∧ Hid (Below W7.heap.size W7 wx))
            case first =>
              refine wp_region_fam F HF.out.1 (by kernel_rfl) (by kernel_rfl) ?_
              repeat (go_big_quiet_step (first
                | (go_at_call 50; exact HFB.out _)))
              refine wpQuiet_nil ?_
              rintro _ ⟨i, rfl⟩
              have HB8 := HF.out.2 i
              go_wp2
              go_meet
              exact ⟨by simp, HB8⟩
            case rest =>
              rename World => W8
              obtain ⟨rfl, HC⟩ := hcut
              clear g0 g1 hlen HF HFB
              go_wp2
              go_ret
              exact ⟨rfl, HB7.out.trans (HC.out.mono HB7.out.size)⟩
          · have hb2 : (bn : Int) < (up.length : Int) := by omega
            subst hcd
            clear hb HBL
            go_cut [34] (fun v wx => v = .bool true ∧ Hid (Below W7.heap.size W7 wx))
            case first =>
              refine wp_region_fam F HF.out.1 (by kernel_rfl) (by kernel_rfl) ?_
              repeat (go_big_quiet_step (first
                | (go_at_call 50; exact HFB.out _)))
              refine wpQuiet_nil ?_
              rintro _ ⟨i, rfl⟩
              have HB8 := HF.out.2 i
              go_wp2
              go_meet
              exact ⟨by simp, HB8⟩
            case rest =>
              rename World => W8
              obtain ⟨rfl, HC⟩ := hcut
              clear g0 g1 hlen HF HFB
              go_wp2
              go_ret
              exact ⟨rfl, HB7.out.trans (HC.out.mono HB7.out.size)⟩
      · have hcd : cd = 11 := by
          cases hc with
          | none h1 _ => exact absurd h1 hr
          | some h1 _ => exact absurd h1 hr
          | tells _ _ => rfl
          | other _ _ _ => rfl
          | calm _ _ h3 _ => exact absurd h3 hro
          | round _ _ h3 _ => exact absurd h3 hro
        have eo : (ro != root) = true := by simpa using hro
        subst hcd
        clear hc hr ht het hro hno
        go_upto_region 5 with fail
        go_cut [27] (fun v wx => v = .bool true ∧ Hid (Below W.heap.size W wx))
        case first =>
          refine wp_region_fam F HF.out.1 (by kernel_rfl) (by kernel_rfl) ?_
          repeat (go_big_quiet_step (first
            | (go_at_call 49; exact HFT.out _)
            | (go_at_call 34; exact HFK.out _)
            | (go_at_call 33; exact HFO.out _)))
          refine wpQuiet_nil ?_
          rintro _ ⟨i, rfl⟩
          have HB7 := HF.out.2.1 i
          go_wp2
          go_meet
          exact ⟨rfl, HB7⟩
        case rest =>
          rename World => W7
          obtain ⟨rfl, HC⟩ := hcut
          clear g0 g1 g2 g3 HF HFT HFK HFO
          go_wp2
          go_ret
          exact ⟨rfl, HB.out.trans (HC.out.mono HB.out.size)⟩
theorem mk_up (w : World) : ∃ W g, (Instr.makeMap 41 none).run Tryz.prog w = .ok (.map (some g)) W ∧ UpAt W g [] ∧ Below w.heap.size w W ∧ w.heap.size ≤ g :=
  ⟨w.alloc (.map #[] 0), w.heap.size, run_makeMap 41 w, MpK.made w, below_one _ _, Nat.le_refl _⟩
theorem put_up {w : World} {g : Nat} {m : List (Int × Int)} (h : UpAt w g m) (k v : Int) (hk : lookI m k = none) :
    ∃ W, (Instr.mapUpdate 41 (.map (some g)) (.int .i64 k) (.int .i64 v)).run Tryz.prog w = .ok () W ∧ UpAt W g (m ++ [(k, v)]) ∧ ∀ B w0, B ≤ g → Below B w0 w → Below B w0 W := by
  obtain ⟨o, h1, h2⟩ := h.put (P := Tryz.prog) key_int Tryz.underlying41 (k := k) (by rw [look_upV, hk]; rfl) (.int .i64 v)
  rw [upV_snoc] at h2
  exact ⟨_, h1, h2, fun B w0 hB hw => setB_below hw hB o⟩
end Go.Proofs.YtmajlldfiiokoaaGreatDoor

/- Trees over a ring in the calm: how deep they are, who has no children, and that Check takes them. -/
namespace Go.Proofs.YtmajlldfiiokoaaGreatDoor
set_option linter.unusedVariables false

theorem itr_add (s : Int → Int) : ∀ (i j : Nat) (n : Int), itr s (i + j) n = itr s j (itr s i n)
  | 0, j, n => by rw [Nat.zero_add]; rfl
  | i + 1, j, n => by
    have : i + 1 + j = (i + j) + 1 := by omega
    rw [this]
    show itr s (i + j) (s n) = itr s j (itr s i (s n))
    exact itr_add s i j (s n)
theorem least_nat {p : Nat → Prop} : ∀ (k : Nat), p k → ∃ j, p j ∧ ∀ i, i < j → ¬ p i := by
  intro k
  induction k using Nat.strongRecOn with
  | _ k ih =>
    intro hk
    by_cases h : ∃ i, i < k ∧ p i
    · obtain ⟨i, h1, h2⟩ := h
      exact ih i h1 h2
    · exact ⟨k, hk, fun i hi hp => h ⟨i, hi, hp⟩⟩
section
variable {nx : Int → Option Int} {L : Int → Prop} {s : Int → Int} {r : Int}
theorem TrIs.alive (c : Conv nx L s r) {ms : List Int} {t : Tr} (h : TrIs nx s r ms t) (hms : ∀ m ∈ ms, L m) {a : Int} (ha : t.inT a) : L a := by
  obtain ⟨m, hm, j, rfl⟩ := (h.nodes a).1 ha
  exact c.live (hms m hm) j
theorem TrIs.ne {ms : List Int} {t : Tr} (h : TrIs nx s r ms t) {a : Int} (ha : t.inT a) : ms ≠ [] := fun e => by
  obtain ⟨m, hm, _⟩ := (h.nodes a).1 ha
  rw [e] at hm; cases hm
/-- How many steps it is. -/
theorem TrIs.steps (c : Conv nx L s r) {ms : List Int} {t : Tr} (h : TrIs nx s r ms t) (hms : ∀ m ∈ ms, L m) {a : Int} (ha : t.inT a) : ∃ k : Nat, t.rch k a ∧ itr s k a = r ∧ ∀ i, i < k → itr s i a ≠ r := by
  obtain ⟨k0, _, hk0⟩ := c.en a (h.alive c hms ha)
  obtain ⟨k, hk, hmin⟩ := least_nat (p := fun k => itr s k a = r) k0 hk0
  exact ⟨k, (h.rch c (h.ne ha) k a ha).2 ⟨hk, hmin⟩, hk, hmin⟩
theorem TrIs.deep (c : Conv nx L s r) {live : List Int} (hl : ∀ n, L n → n ∈ live) {ms : List Int} {t : Tr} (h : TrIs nx s r ms t) (hms : ∀ m ∈ ms, L m) {a : Int} (ha : t.inT a) : ∃ k : Nat, t.depth a = k ∧ k < live.length := by
  obtain ⟨k, hr, hk, hmin⟩ := h.steps c hms ha
  refine ⟨k, depth_yes (by rw [h.root, if_neg (h.ne ha)]; exact c.rt.2.2) hr, ?_⟩
  have hn : ((List.range (k + 1)).map fun i => itr s i a).Nodup := by
    refine List.pairwise_map.2 (List.Pairwise.imp_of_mem (fun {i j} hi hj hlt e => ?_) (List.pairwise_lt_range (n := k + 1)))
    have hj' : j ≤ k := by have := List.mem_range.1 hj; omega
    have h1 := itr_add s i (k - j) a
    rw [e, ← itr_add s j (k - j) a, show j + (k - j) = k by omega, hk] at h1
    exact hmin (i + (k - j)) (by omega) h1
  have := nodup_le _ live hn (fun x hx => by
    obtain ⟨i, _, rfl⟩ := List.mem_map.1 hx
    exact hl _ (c.live (h.alive c hms ha) i))
  simp at this
  omega
/-- Whom nobody tells is one of the members. -/
theorem TrIs.leaf (c : Conv nx L s r) {ms : List Int} {t : Tr} (h : TrIs nx s r ms t) (hms : ∀ m ∈ ms, L m) {a : Int} (ha : t.inT a) (hno : ∀ x, lookI t.up x ≠ some a) : a ∈ ms := by
  obtain ⟨m, hm, j0, hj0⟩ := (h.nodes a).1 ha
  obtain ⟨j, hj, hmin⟩ := least_nat (p := fun j => a = itr s j m) j0 hj0
  cases j with
  | zero => have e : a = m := hj; rw [e]; exact hm
  | succ j =>
    exfalso
    have e1 : a = s (itr s j m) := by rw [hj, itr_out]
    by_cases e : itr s j m = r
    · have : a = itr s j m := by rw [e1, e, c.rt.1]
      exact hmin j (by omega) this
    · exact hno (itr s j m) ((h.up _ _).2 ⟨(h.nodes _).2 ⟨m, hm, j, rfl⟩, e, e1⟩)
theorem TrIs.check (c : Conv nx L s r) {ms : List Int} {t : Tr} (h : TrIs nx s r ms t) (hms : ∀ m ∈ ms, L m) : ChkIs t r 0 := by
  by_cases e : ms = []
  · refine .none (by rw [h.root, if_pos e]) ?_
    cases hq : t.up with
    | nil => rfl
    | cons p m =>
      exfalso
      have : t.inT p.1 := .inr ⟨p.2, by rw [hq]; simp [lookI]⟩
      exact h.ne this e
  · have hr : t.root = r := by rw [h.root, if_neg e]
    refine .calm (by rw [hr]; exact c.rt.2.2) ?_ hr.symm (fun x hx => ?_)
    · cases hq : lookI t.up t.root with
      | none => rfl
      | some v => exact absurd hr ((h.up _ _).1 hq).2.1
    · cases hq : lookI t.up x with
      | none => exact absurd hx (lookI_none.1 hq)
      | some v =>
        obtain ⟨k, hk, _⟩ := h.steps c hms (a := x) (.inr ⟨v, hq⟩)
        exact ⟨k, hk⟩
end
end Go.Proofs.YtmajlldfiiokoaaGreatDoor
