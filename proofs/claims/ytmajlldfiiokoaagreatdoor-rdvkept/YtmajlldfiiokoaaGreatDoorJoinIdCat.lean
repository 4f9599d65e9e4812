/- slices.Concat of two lists of ints, of whatever length; slices.Index at ints. -/
import Derived.Test.YtmajlldfiiokoaaGreatDoorJoinChMap
import Derived.Test.YtmajlldfiiokoaaGreatDoorIdOf2
import Derived.Test.YtmajlldfiiokoaaGreatDoorRing
import Derived.Test.YtmajlldfiiokoaaGreatDoorJoinIdOwn
set_option linter.unnecessarySimpa false
namespace Go.Proofs.YtmajlldfiiokoaaGreatDoor
open Go.ChangeShapes Go.WideShapes Go.ChangeAt Go.RowKit Go.Deep
set_option linter.unusedVariables false

/-- append(nil, make([]int, m)...). -/
theorem run_growN (m : Nat) (hm1 : 3 ≤ m) (hm2 : m ≤ 40) (w : World) (ty : TypeId) :
    (Builtin.append_ #[24, 3] ty #[.slice none 0 0, .int .i64 (m : Int)]).run Tryz.prog w =
      .ok (.slice (some ⟨w.heap.size, 0, none⟩) m (grownCap w m 0 3)) (w.drew.alloc (.cells (Builtin.zeroCells #[.int .i64 0] m ++ Builtin.zeroCells #[.int .i64 0] (grownCap w m 0 3 - m)) 3)) := by
  obtain ⟨i0, hi, hz0, hz1, hz2⟩ := info_of Tryz.infoInt
  have hs : IntKind.i64.wrap (m : Int) = (m : Int) := (by simp [IntKind.wrap, IntKind.bits, IntKind.signed]; omega)
  have hs2 : ¬ ((m : Int) < 0) := by omega
  have hs3 : ¬ (281474976710656 < (m : Int) * 8) := by omega
  have hs4 : ¬ m = 0 := by omega
  have hs5 : 0 < m := by omega
  simp [Builtin.append_, run_underlying Tryz.underlying24, run_underlying Tryz.underlying3, sizeOf, typeInfo, zeroValue, hi, hz0, hz1, hz2, Question.forced, newRow, grownCap, Builtin.firstCells, asInt, asIntOf, hs, hs2, hs3, hs4, hs5, Builtin.nextslicecap, Value.cells, askRoom]
  rw [if_neg (by omega), if_neg (by omega)]

set_option maxRecDepth 100000 in
set_option maxHeartbeats 1000000 in
theorem growN_r (m : Nat) (hm1 : 3 ≤ m) (hm2 : m ≤ 40) (w : World) :
    Calls Tryz.prog 126 #[.slice none 0 0, .int .i64 (m : Int)] w fun e w' => ∃ v, e = .returned v ∧ w'.ownsRow w.heap.size 3 1 v 0 [] ∧ Below w.heap.size w w' := by
  have hc1 : m ≤ grownCap w m 0 3 := grownCap_ge w m 0 3
  have hc2 : grownCap w m 0 3 ≤ maxLen := grownCap_le_maxLen w m 0 3 (by unfold maxLen; omega)
  have hr := run_growN m hm1 hm2 w
  obtain ⟨W, hW⟩ : ∃ W, W = w.drew.alloc (.cells (Builtin.zeroCells #[.int .i64 0] m ++ Builtin.zeroCells #[.int .i64 0] (grownCap w m 0 3 - m)) 3) := ⟨_, rfl⟩
  have HB : Hid (Below w.heap.size w W) := by rw [hW]; exact (Below.refl _ _ : Below w.heap.size w w).trans ⟨rfl, rfl, rfl, by simp, fun k hk => Below.heap_alloc w.drew _ k hk⟩
  have HG : Hid (W.heap[w.heap.size]? = some (.cells (Builtin.zeroCells #[.int .i64 0] m ++ Builtin.zeroCells #[.int .i64 0] (grownCap w m 0 3 - m)) 3 (0, 0))) := by rw [hW]; exact heap_alloc_new w.drew _
  generalize grownCap w m 0 3 = c at *
  rw [← hW] at hr
  have HR : Hid _ := hr
  clear hr hW
  unfold maxLen at hc2
  have hc3 : 0 ≤ c := by omega
  go_enter Tryz.func126, Tryz.ntmps126
  go_wp2_with (at_builtin; refine wpList_append_run rfl _ _ 24 3 rfl _ _ rfl rfl _ _ (HR.out _) ?_)
  go_ret
  refine ⟨_, rfl, ?_, HB.out⟩
  exact ⟨rfl, .inr ⟨w.heap.size, c, _, rfl, Nat.le_refl _, HG.out, by omega, by unfold maxLen; omega, by simp [size_zeroCells]; omega, rfl⟩⟩

set_option maxRecDepth 100000 in
set_option maxHeartbeats 2000000 in
/-- Concat of two lists, some more in all. -/
theorem concat_n (m : Nat) (hm1 : 3 ≤ m) (hm2 : m ≤ 40) (g : Nat) (a1 : Option Addr) (n1 c1 : Nat) (l1 : List Int) (a2 : Option Addr) (n2 c2 : Nat) (l2 : List Int) (w : World) (h0 : w.cell? ⟨g, 0, none⟩ = some (.slice a1 n1 c1)) (h1 : w.cell? ⟨g, 1, none⟩ = some (.slice a2 n2 c2))
    (hl1 : InIn w a1 n1 l1) (hl2 : InIn w a2 n2 l2) (hn1 : a1 = none → n1 = 0) (hn2 : a2 = none → n2 = 0) (h3 : n1 + n2 = m) :
    Calls Tryz.prog 80 #[.slice (some ⟨g, 0, none⟩) 2 2] w fun e w' => ∃ a c, e = .returned (.slice a m c) ∧ InIn w' a m (l1 ++ l2) ∧ m ≤ c ∧ c ≤ 9223372036854775807 ∧ a ≠ none ∧ (∀ x, a = some x → w.heap.size ≤ x.block) ∧ Below w.heap.size w w' := by
  obtain ⟨i0, hi, hz0, hz1, hz2⟩ := info_of Tryz.infoInt
  have HL : Hid (InIn w a1 n1 l1 ∧ InIn w a2 n2 l2 ∧ (a1 = none → n1 = 0) ∧ (a2 = none → n2 = 0)) := ⟨hl1, hl2, hn1, hn2⟩
  have hg : g < w.heap.size := cell_block h0
  have q1 : (n1 : Int) + (n2 : Int) = (m : Int) := by omega
  have q2 : ¬ (n1 : Int) < 0 := by omega
  have q3 : ¬ (n1 : Int) + (n2 : Int) < 0 := by omega
  have HC : Hid (w.cell? ⟨g, 0, none⟩ = some (.slice a1 n1 c1) ∧ w.cell? ⟨g, 1, none⟩ = some (.slice a2 n2 c2)) := ⟨h0, h1⟩
  have hb1 : (n1 : Int) ≤ 40 := by omega
  have hb2 : (n2 : Int) ≤ 40 := by omega
  clear hl1 hl2 hn1 hn2
  go_enter Tryz.func80, Tryz.ntmps80
  go_wp2
  refine wp_loop_rounds 3 ?_
  rw [rounds_succ]
  go_wp2
  rw [rounds_succ]
  go_wp2
  rw [rounds_succ]
  go_wp2_with fail
  refine (growN_r m hm1 hm2 _).mono ?_
  rintro e w2 ⟨v, rfl, hv, hb⟩
  have HB2 : Hid (Below w.heap.size w w2) := hb
  have HV : Hid (w2.ownsRow w.heap.size 3 1 v 0 []) := hv
  have x0 := cell_grown HC.out.1 hb
  have x1 := cell_grown HC.out.2 hb
  have z2 : g < w2.heap.size := by have := hb.size; omega
  have HS1 : Hid (Src Tryz.prog 1 24 (.slice a1 n1 c1) n1 (l1.map cellI) w2) := src_ints (HL.out.1.below (Nat.le_refl _) hb) HL.out.2.2.1
  clear hv hb h0 h1
  go_wp2
  refine wp_loop_rounds 3 ?_
  rw [rounds_succ]
  go_wp2_with (at_builtin; refine wpList_own_append _ rfl _ _ 24 24 rfl w.heap.size 3 i0 _ 8 Tryz.underlying24 hi hz0 hz1 hz2 rfl _ _ _ rfl HV.out _ n1 _ rfl HS1.out ?c3 ?c4 ?c5 ?_)
  case c3 => unfold maxLen; omega
  case c4 => omega
  case c5 => exact HB2.out.size
  intro v3 w3 ha
  have hgr := ha.grown
  have HB3 : Hid (Below w.heap.size w w3) := HB2.out.trans ⟨hgr.os, hgr.tape, hgr.output, hgr.size, fun k hk => hgr.block k (by have := HB2.out.size; omega) (fun e => by have := (World.ownsRow.lt HV.out k e.symm).1; omega)⟩
  have HV3 : Hid (w3.ownsRow w.heap.size 3 1 v3 n1 (l1.map cellI)) := (show w3.ownsRow w.heap.size 3 1 v3 n1 (l1.map cellI) by simpa using ha.row)
  clear ha hgr x0 x1
  have x0 := cell_grown HC.out.1 HB3.out
  have x1 := cell_grown HC.out.2 HB3.out
  have z3 : g < w3.heap.size := by have := HB3.out.size; omega
  have HS2 : Hid (Src Tryz.prog 1 24 (.slice a2 n2 c2) n2 (l2.map cellI) w3) := src_ints (HL.out.2.1.below (Nat.le_refl _) HB3.out) HL.out.2.2.2
  go_wp2
  rw [rounds_succ]
  go_wp2_with (at_builtin; refine wpList_own_append _ rfl _ _ 24 24 rfl w.heap.size 3 i0 _ 8 Tryz.underlying24 hi hz0 hz1 hz2 rfl _ _ _ rfl HV3.out _ n2 _ rfl HS2.out ?d3 ?d4 ?d5 ?_)
  case d3 => unfold maxLen; omega
  case d4 => omega
  case d5 => exact HB3.out.size
  intro v4 w4 ha
  have hgr := ha.grown
  have HB4 : Hid (Below w.heap.size w w4) := HB3.out.trans ⟨hgr.os, hgr.tape, hgr.output, hgr.size, fun k hk => hgr.block k (by have := HB3.out.size; omega) (fun e => by have := (World.ownsRow.lt HV3.out k e.symm).1; omega)⟩
  obtain ⟨a4, c4, hv4⟩ := ha.shape
  subst hv4
  have HV4 : Hid (w4.ownsRow w.heap.size 3 1 (.slice a4 m c4) m ((l1 ++ l2).map cellI)) := (show w4.ownsRow w.heap.size 3 1 (.slice a4 m c4) m ((l1 ++ l2).map cellI) by simpa using ha.row)
  clear ha hgr
  go_wp2
  rw [rounds_succ]
  go_wp2
  go_ret
  have hk := own_caps HV4.out
  refine ⟨a4, c4, rfl, in_of_own HV4.out (fun x hx => ?_) (by omega), hk.1, hk.2, fun e => ?_, own_new HV4.out, HB4.out⟩
  · rcases List.mem_append.1 hx with h | h
    · exact ints_ok HL.out.1 x h
    · exact ints_ok HL.out.2.1 x h
  · subst e
    rcases HV4.out.2 with ⟨_, e⟩ | ⟨g, cap, cur, hv, _⟩
    · omega
    · cases hv
theorem index_i (a : Option Addr) (n cap : Nat) (l : List Int) (x : Int) (k : Nat) (w : World) (h : InIn w a n l) (hk : k < n) (hx : l.getD k 0 = x) (hmin : ∀ j, j < k → l.getD j 0 ≠ x) :
    Calls Tryz.prog 79 #[.slice a n cap, .int .i64 x] w fun e w' => e = .returned (.int .i64 k) ∧ w' = w := by
  have HI : Hid (InIn w a n l) := h
  have HX : Hid (l.getD k 0 = x ∧ ∀ j, j < k → l.getD j 0 ≠ x) := ⟨hx, hmin⟩
  have hm := h.2.1
  clear h hx hmin
  go_enter Tryz.func79, Tryz.ntmps79
  go_wp2
  go_loop [8] (fun s => ∃ j : Nat, s = .int .i64 j ∧ j ≤ k) (fun s => n - (intOf s).toNat)
  case atStart => exact ⟨0, rfl, Nat.zero_le _⟩
  case round =>
    obtain ⟨j, rfl, hj⟩ := hrel
    have hlt : j < n := by omega
    obtain ⟨b, o, rfl, hb, _, hc⟩ := HI.out.one (v := Value.int .i64) (fun _ => rfl) (i := j) hlt
    by_cases e : j = k
    · subst e
      rw [HX.out.1] at hc
      have ee : (x == x) = true := by simp
      go_wp2
      go_ret
      exact ⟨rfl, rfl⟩
    · have hne := HX.out.2 j (by omega)
      generalize l.getD j 0 = y at hc hne
      have ee : (x == y) = false := by simpa using Ne.symm hne
      go_wp2
      go_round
      case rel => exact ⟨j + 1, by go_num, by omega⟩
      case measure => simp [intOf]; omega
theorem index_none (a : Option Addr) (n cap : Nat) (l : List Int) (x : Int) (w : World) (h : InIn w a n l) (hmin : ∀ j, j < n → l.getD j 0 ≠ x) :
    Calls Tryz.prog 79 #[.slice a n cap, .int .i64 x] w fun e w' => e = .returned (.int .i64 (-1)) ∧ w' = w := by
  have HI : Hid (InIn w a n l) := h
  have HX : Hid (∀ j, j < n → l.getD j 0 ≠ x) := hmin
  have hm := h.2.1
  clear h hmin
  go_enter Tryz.func79, Tryz.ntmps79
  go_wp2
  go_loop [8] (fun s => ∃ j : Nat, s = .int .i64 j ∧ j ≤ n) (fun s => n - (intOf s).toNat)
  case atStart => exact ⟨0, rfl, Nat.zero_le _⟩
  case round =>
    obtain ⟨j, rfl, hj⟩ := hrel
    by_cases hlt : j < n
    · obtain ⟨b, o, rfl, hb, _, hc⟩ := HI.out.one (v := Value.int .i64) (fun _ => rfl) (i := j) hlt
      have hne := HX.out j hlt
      generalize l.getD j 0 = y at hc hne
      have ee : (x == y) = false := by simpa using Ne.symm hne
      go_wp2
      go_round
      case rel => exact ⟨j + 1, by go_num, by omega⟩
      case measure => simp [intOf]; omega
    · go_wp2
      go_ret
      exact ⟨rfl, rfl⟩
end Go.Proofs.YtmajlldfiiokoaaGreatDoor

/- What an address should know; does each one know it? -/
namespace Go.Proofs.YtmajlldfiiokoaaGreatDoor
open Go.ChangeShapes Go.WideShapes Go.ChangeAt Go.RowKit Go.Deep
set_option linter.unusedVariables false

theorem sl_from (g n c i : Nat) (W : World) (hi : i < n) (hc : n ≤ c) (hq : ¬ c = i + 1) : (Instr.slice 24 (.slice (some ⟨g, 0, none⟩) n c) (some (.int .i64 ((i : Int) + 1))) none none).run Tryz.prog W = .ok (.slice (some ⟨g, i + 1, none⟩) (n - (i + 1)) (c - (i + 1))) W := by
  simp [go_sem, Tryz.underlying24]
  rw [if_pos ⟨by omega, by omega⟩, if_neg hq]
theorem sl_end (g n : Nat) (i : Nat) (W : World) (hi : n = i + 1) : (Instr.slice 24 (.slice (some ⟨g, 0, none⟩) n n) (some (.int .i64 ((i : Int) + 1))) none none).run Tryz.prog W = .ok (.slice (some ⟨g, 0, none⟩) 0 0) W := by
  subst hi
  simp [go_sem, Tryz.underlying24]
  omega
theorem sl_to (g n c i : Nat) (W : World) (hi : i < n) (hc : n ≤ c) : (Instr.slice 24 (.slice (some ⟨g, 0, none⟩) n c) none (some (.int .i64 (i : Int))) none).run Tryz.prog W = .ok (.slice (some ⟨g, 0, none⟩) i c) W := by
  simp [go_sem, Tryz.underlying24]
  omega
theorem sl_to3 (g o n c : Nat) (W : World) (hn : 3 ≤ n) (hc : n ≤ c) : (Instr.slice 24 (.slice (some ⟨g, o, none⟩) n c) none (some (.int .i64 3)) none).run Tryz.prog W = .ok (.slice (some ⟨g, o, none⟩) 3 c) W := by
  simp [go_sem, Tryz.underlying24]
  omega
set_option maxRecDepth 100000 in
set_option maxHeartbeats 2000000 in
theorem cpeer_r (R : Rg) (C : List Int) (g c d n i : Nat) (b : Option Addr) (w : World) (hm : InIn w (some ⟨g, 0, none⟩) n C) (hc1 : n ≤ c) (hc2 : c ≤ 9223372036854775807) (hp : IdIn w b n (C.map R.idOf)) (h4 : 4 ≤ n) (h32 : n ≤ 32) (hi : i < n) (hmin : ∀ j, j < i → C.getD j 0 ≠ C.getD i 0) :
    Calls Tryz.prog 35 #[.agg #[.slice (some ⟨g, 0, none⟩) n c, .slice b n d], .int .i64 (C.getD i 0)] w fun e w' => ∃ a2 c2, e = .returned (.tuple #[.agg #[.int .u64 (idPe R C i).id, .int .i64 (idPe R C i).pred, .slice a2 3 c2], .bool true]) ∧ InIn w' a2 3 (idPe R C i).succ ∧ 3 ≤ c2 ∧ Below w.heap.size w w' := by
  have hlen : C.length = n := hm.1
  obtain ⟨W1, hW1⟩ : ∃ W1, W1 = (w.alloc (.cells #[.slice (some ⟨g, 0, none⟩) n c, .slice b n d] 50)).alloc (.cells #[.int .u64 0, .int .i64 0, .slice none 0 0] 80) := ⟨_, rfl⟩
  have b1 : Below w.heap.size w W1 := by rw [hW1]; exact (below_one _ _).trans ((below_one _ _).mono (by simp))
  have e0 : W1.heap[w.heap.size]? = some (.cells #[.slice (some ⟨g, 0, none⟩) n c, .slice b n d] 50 (0, 0)) := by rw [hW1, Below.heap_alloc _ _ _ (by simp)]; exact heap_alloc_new w _
  have e1 : W1.heap[w.heap.size + 1]? = some (.cells #[.int .u64 0, .int .i64 0, .slice none 0 0] 80 (0, 0)) := by rw [hW1]; simpa using heap_alloc_new (w.alloc (.cells #[.slice (some ⟨g, 0, none⟩) n c, .slice b n d] 50)) (.cells #[.int .u64 0, .int .i64 0, .slice none 0 0] 80)
  have s1 : W1.heap.size = w.heap.size + 2 := by rw [hW1]; simp
  have x0 : W1.cell? ⟨w.heap.size, 0, none⟩ = some (.slice (some ⟨g, 0, none⟩) n c) := by simp [World.cell?, e0]
  have x1 : W1.cell? ⟨w.heap.size, 1, none⟩ = some (.slice b n d) := by simp [World.cell?, e0]
  have xz := cell_block x0
  have HS1 : Hid (W1.heap.size = w.heap.size + 2) := s1
  clear s1
  have HM : Hid (InIn W1 (some ⟨g, 0, none⟩) n C ∧ IdIn W1 b n (C.map R.idOf) ∧ Below w.heap.size w W1) := ⟨hm.below (Nat.le_refl _) b1, hp.below (Nat.le_refl _) b1, b1⟩
  have HX : Hid _ := hmin
  obtain ⟨x, hx⟩ : ∃ x, C.getD i 0 = x := ⟨_, rfl⟩
  have HXE : Hid (C.getD i 0 = x) := hx
  have IDX : Hid _ := index_i (some ⟨g, 0, none⟩) n c C x i W1 HM.out.1 hi hx (fun j hj => by rw [← hx]; exact hmin j hj)
  rw [hx]
  obtain ⟨pd, hpd⟩ : ∃ pd : Nat, pd = (i + n - 1) % n := ⟨_, rfl⟩
  have hpl : pd < n := by rw [hpd]; exact Nat.mod_lt _ (by omega)
  have epm : ((i : Int) + (n : Int) - 1) % (n : Int) = (pd : Int) := by
    rw [hpd, Int.natCast_emod, show ((i + n - 1 : Nat) : Int) = (i : Int) + (n : Int) - 1 by omega]
  have HPD : Hid (pd = (i + n - 1) % n) := hpd
  have HE : Hid (W1.heap[w.heap.size]? = some (.cells #[.slice (some ⟨g, 0, none⟩) n c, .slice b n d] 50 (0, 0)) ∧ W1.heap[w.heap.size + 1]? = some (.cells #[.int .u64 0, .int .i64 0, .slice none 0 0] 80 (0, 0))) := ⟨e0, e1⟩
  clear hm hp b1 hmin hx hpd e0 e1
  go_enter Tryz.func35, Tryz.ntmps35
  go_upto_region 1 with fail
  rw [← hW1]
  clear hW1
  go_wp2_with fail
  refine Calls.mono IDX.out ?_
  rintro e w' ⟨rfl, hw'⟩
  subst w'
  have hdi : decide ((i : Int) < 0) = false := by simp
  go_upto_region 5 with fail
  rw [epm]
  clear epm
  have ew : IntKind.i64.wrap ((i : Int) + 1) = (i : Int) + 1 := by simp [IntKind.wrap, IntKind.bits, IntKind.signed]; omega
  go_cut [8] (fun v wx => ∃ a6 c6, v = .slice a6 (n - 1) c6 ∧ Hid (InIn wx a6 (n - 1) (C.drop (i + 1) ++ C.take i) ∧ n - 1 ≤ c6 ∧ c6 ≤ 9223372036854775807 ∧ (∀ x, a6 = some x → W1.heap.size ≤ x.block) ∧ Below W1.heap.size W1 wx))
  case first =>
    by_cases hq : c = i + 1
    · have hni : n = i + 1 := by omega
      obtain ⟨W6, hW6⟩ : ∃ W6, W6 = (W1.alloc (.cells #[.slice (some ⟨g, 0, none⟩) 0 0, .slice (some ⟨g, 0, none⟩) i c] 24)).drew := ⟨_, rfl⟩
      have b6 : Hid (Below W1.heap.size W1 W6) := by rw [hW6]; exact below1d _ _
      have HCAT : Hid _ := concat_n (n - 1) (by omega) (by omega) W1.heap.size (some ⟨g, 0, none⟩) 0 0 (C.drop (i + 1)) (some ⟨g, 0, none⟩) i c (C.take i) W6 (by rw [hW6]; simp) (by rw [hW6]; simp) (InRow.below (by rw [List.drop_of_length_le (by omega)]; exact in_empty) (Nat.le_refl _) b6.out) (InRow.below (HM.out.1.take i (by omega)) (Nat.le_refl _) b6.out) (by simp) (by simp) (by omega)
      have hcn : c = n := by omega
      have sl1 : ∀ W, _ := fun W => sl_end g n i W hni
      have sl2 : ∀ W, _ := fun W => sl_to g n n i W hi (Nat.le_refl _)
      subst hcn
      clear hni hq
      go_region_with ((go_at_call 80; rw [← hW6]; refine Calls.mono HCAT.out ?_; rintro e w6 ⟨a6, c6, rfl, h6, hc6, hd6, hn6, hf6, hb6⟩))
      all_goals
        go_wp2
        go_meet
        exact ⟨a6, c6, rfl, (⟨h6, hc6, hd6, fun x hx => Nat.le_trans b6.out.size (hf6 x hx), b6.out.trans (hb6.mono b6.out.size)⟩ : _ ∧ _ ∧ _ ∧ _ ∧ _)⟩
    · have sl1 : ∀ W, _ := fun W => sl_from g n c i W hi hc1 hq
      have sl2 : ∀ W, _ := fun W => sl_to g n c i W hi hc1
      clear hq
      obtain ⟨W6, hW6⟩ : ∃ W6, W6 = (W1.alloc (.cells #[.slice (some ⟨g, i + 1, none⟩) (n - (i + 1)) (c - (i + 1)), .slice (some ⟨g, 0, none⟩) i c] 24)).drew := ⟨_, rfl⟩
      have b6 : Hid (Below W1.heap.size W1 W6) := by rw [hW6]; exact below1d _ _
      have HCAT : Hid _ := concat_n (n - 1) (by omega) (by omega) W1.heap.size (some ⟨g, i + 1, none⟩) (n - (i + 1)) (c - (i + 1)) (C.drop (i + 1)) (some ⟨g, 0, none⟩) i c (C.take i) W6 (by rw [hW6]; simp) (by rw [hW6]; simp) (InRow.below (in_drop HM.out.1 (i + 1) (n - (i + 1)) (by omega)) (Nat.le_refl _) b6.out) (InRow.below (HM.out.1.take i (by omega)) (Nat.le_refl _) b6.out) (by simp) (by simp) (by omega)
      go_region_with ((go_at_call 80; rw [← hW6]; refine Calls.mono HCAT.out ?_; rintro e w6 ⟨a6, c6, rfl, h6, hc6, hd6, hn6, hf6, hb6⟩))
      all_goals
        go_wp2
        go_meet
        exact ⟨a6, c6, rfl, (⟨h6, hc6, hd6, fun x hx => Nat.le_trans b6.out.size (hf6 x hx), b6.out.trans (hb6.mono b6.out.size)⟩ : _ ∧ _ ∧ _ ∧ _ ∧ _)⟩
  case rest =>
    obtain ⟨a6, c6, rfl, HC⟩ := hcut
    have hw6 := HC.out.2.2.2.2
    have hs6 := hw6.size
    have z0 := HS1.out
    have x0' := cell_grown x0 hw6
    have x1' := cell_grown x1 hw6
    have e1 : wc.heap[w.heap.size + 1]? = some (.cells #[.int .u64 0, .int .i64 0, .slice none 0 0] 80 (0, 0)) := (hw6.block _ (by omega)).trans HE.out.2
    have t0 : wc.cell? ⟨w.heap.size + 1, 0, none⟩ = some (.int .u64 0) := by simp [World.cell?, e1]
    have t1 : wc.cell? ⟨w.heap.size + 1, 1, none⟩ = some (.int .i64 0) := by simp [World.cell?, e1]
    have t2 : wc.cell? ⟨w.heap.size + 1, 2, none⟩ = some (.slice none 0 0) := by simp [World.cell?, e1]
    have tf : ∀ o, wc.frozen? ⟨w.heap.size + 1, o, none⟩ = false := fun o => by simp [World.frozen?, e1]
    have tz := cell_block t0
    have xz' := cell_block x0'
    obtain ⟨pb, po, hpb, hpbl, _, hpc⟩ := (HM.out.2.1.below (Nat.le_refl _) hw6).one (v := Value.int .u64) (fun _ => rfl) (i := i) hi
    have hid : (C.map R.idOf).getD i 0 = R.idOf x := by
      have : i < C.length := by omega
      rw [← HXE.out]
      simp [List.getD, this]
    rw [hid] at hpc
    subst hpb
    obtain ⟨mb, mo, hmb, hmbl, _, hmc⟩ := (HM.out.1.below (Nat.le_refl _) hw6).one (v := Value.int .i64) (fun _ => rfl) (i := pd) hpl
    simp at hmb
    obtain ⟨rfl, rfl⟩ := hmb
    simp only [Nat.zero_add] at hmc
    obtain ⟨ob, oo, hob, hobl, _, _⟩ := HC.out.1.one (v := Value.int .i64) (fun _ => rfl) (i := 0) (by omega)
    subst hob
    have HOB : Hid (W1.heap.size ≤ ob) := HC.out.2.2.2.1 _ rfl
    have HCC : Hid (InIn wc (some ⟨ob, oo, none⟩) 3 ((C.drop (i + 1) ++ C.take i).take 3) ∧ Below W1.heap.size W1 wc) := ⟨HC.out.1.take 3 (by omega), hw6⟩
    have hc6 := HC.out.2.1
    have HID : Hid ((idPe R C i).id = R.idOf x ∧ (idPe R C i).pred = C.getD pd 0 ∧ (idPe R C i).succ = (C.drop (i + 1) ++ C.take i).take 3) := ⟨by show R.idOf (C.getD i 0) = _; rw [HXE.out], by show C.getD ((i + C.length - 1) % C.length) 0 = _; rw [hlen, HPD.out], rfl⟩
    obtain ⟨m1, hm1⟩ : ∃ m1, m1 = n - 1 := ⟨_, rfl⟩
    rw [← hm1] at hc6 ⊢
    have hm3 : 3 ≤ m1 := by omega
    have hm40 : m1 ≤ 40 := by omega
    have sl3 : ∀ W, _ := fun W => sl_to3 ob oo m1 c6 W hm3 hc6
    have hmn1 : ¬ ((m1 : Int) < 3) := by omega
    have hmn3 : min (m1 : Int) 3 = 3 := by omega
    generalize C.getD pd 0 = pv at hmc HID
    clear hw6 hs6 e1 HC hid hm1 z0 x0 x1
    go_upto_region 7 with fail
    go_region
    all_goals
      go_wp2
      have hob := HOB.out
      have hs1 := HS1.out
      have hf : ∀ y, (some ⟨ob, oo, none⟩ : Option Addr) = some y → y.block ≠ w.heap.size + 1 := fun y hy => by cases hy; show ob ≠ w.heap.size + 1; omega
      clear hs1 hob
      refine bodyPost_ret (v := .tuple #[.agg #[.int .u64 (R.idOf x), .int .i64 pv, .slice (some ⟨ob, oo, none⟩) 3 c6], .bool true]) (by simp [results, Tryz.results35, go_sem, *]) rfl ⟨some ⟨ob, oo, none⟩, c6, ?_, ?_, ?_, ?_⟩
      · rw [HID.out.1, HID.out.2.1]
      · rw [HID.out.2.2]
        exact ((HCC.out.1.setCell hf _).setCell hf _).setCell hf _
      · omega
      · have hbb : Below w.heap.size w wc := HM.out.2.2.trans (HCC.out.2.mono HM.out.2.2.size)
        have hq : ∀ o : Nat, w.heap.size ≤ (⟨w.heap.size + 1, o, none⟩ : Addr).block := fun o => Nat.le_succ _
        exact (((hbb.setCell (hq 0) _).setCell (hq 1) _).setCell (hq 2) _).trans ⟨rfl, rfl, rfl, Nat.le_refl _, fun _ _ => rfl⟩

end Go.Proofs.YtmajlldfiiokoaaGreatDoor

/- What ring.Start answers. -/
namespace Go.Proofs.YtmajlldfiiokoaaGreatDoor
open Go.ChangeShapes Go.WideShapes Go.ChangeAt Go.RowKit

end Go.Proofs.YtmajlldfiiokoaaGreatDoor

/- Owner, Finger, Len; layer 11's answers that the document fixes. -/
namespace Go.Proofs.YtmajlldfiiokoaaGreatDoor
open Go.ChangeShapes Go.WideShapes Go.ChangeAt Go.RowKit Go.Deep
set_option linter.unusedVariables false

set_option maxHeartbeats 2000000 in
theorem cowner_r (R : Rg) (C : List Int) (g c d n k : Nat) (b : Option Addr) (x : Int) (w : World) (hm : InIn w (some ⟨g, 0, none⟩) n C) (hp : IdIn w b n (C.map R.idOf)) (h4 : 4 ≤ n) (hk : ownerN (C.map R.idOf) x = (k : Int)) (hkn : k < n) :
    Calls Tryz.prog 33 #[.agg #[.slice (some ⟨g, 0, none⟩) n c, .slice b n d], .int .u64 x] w fun e w' => e = .returned (.int .i64 (C.getD k 0)) ∧ Below w.heap.size w w' := by
  obtain ⟨W1, hW1⟩ : ∃ W1, W1 = w.alloc (.cells #[.slice (some ⟨g, 0, none⟩) n c, .slice b n d] 50) := ⟨_, rfl⟩
  have b1 : Below w.heap.size w W1 := by rw [hW1]; exact below_one _ _
  have x0 : W1.cell? ⟨w.heap.size, 0, none⟩ = some (.slice (some ⟨g, 0, none⟩) n c) := by rw [hW1]; simp
  have x1 : W1.cell? ⟨w.heap.size, 1, none⟩ = some (.slice b n d) := by rw [hW1]; simp
  have xz := cell_block x0
  have hp1 := hp.below (Nat.le_refl _) b1
  obtain ⟨pb, po, hpb, _, _, _⟩ := hp1.one (v := Value.int .u64) (fun _ => rfl) (i := 0) (by omega)
  subst hpb
  have hpm := hp1.2.1
  obtain ⟨g', o', e', hgl, _, hcx⟩ := (hm.below (Nat.le_refl _) b1).one (v := Value.int .i64) (fun _ => rfl) (i := k) hkn
  simp at e'
  obtain ⟨rfl, rfl⟩ := e'
  simp only [Nat.zero_add] at hcx
  have OW : Hid _ := owner_some pb po n d (C.map R.idOf) x W1 hp1.1 (by omega) hpm (fun j hj => by
    obtain ⟨b2, o2, e2, _, _, h2⟩ := hp1.one (v := Value.int .u64) (fun _ => rfl) (i := j) hj
    cases e2; exact h2)
  rw [hk] at OW
  have HB : Hid (Below w.heap.size w W1) := b1
  have hk0 : ¬ (k : Int) < 0 := by omega
  generalize C.getD k 0 = y at hcx
  clear hp hm b1 hp1 hk
  go_enter Tryz.func33, Tryz.ntmps33
  go_upto_region 1 with fail
  rw [← hW1]
  clear hW1
  go_wp2_with (go_at_call 77; refine Calls.mono OW.out ?_; rintro e w' ⟨rfl, rfl⟩)
  go_ret
  exact ⟨rfl, HB.out⟩
end Go.Proofs.YtmajlldfiiokoaaGreatDoor

/- The circle's owner of a place is the one at which all ways end. -/
namespace Go.Proofs.YtmajlldfiiokoaaGreatDoor
open Go.ChangeShapes Go.WideShapes Go.ChangeAt Go.RowKit Go.Deep
set_option linter.unusedVariables false

end Go.Proofs.YtmajlldfiiokoaaGreatDoor
