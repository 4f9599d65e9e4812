/- wigwagref10.Join. -/
import Derived.Test.YtmajlldfiiokoaaGreatDoorRfF
namespace Go.Proofs.YtmajlldfiiokoaaGreatDoor
open Go.ChangeShapes Go.WideShapes Go.ChangeAt Go.RowKit Go.Deep
set_option linter.unusedVariables false

theorem list_set32 {α : Type} (f g : Nat → α) (k : Nat) (hk : k < 32) (h : ∀ j, j < 32 → j ≠ k → g j = f j) : (List.range 32).map g = ((List.range 32).map f).set k (g k) := by
  apply List.ext_getElem?
  intro j
  rw [List.getElem?_set, List.getElem?_map, List.getElem?_map]
  by_cases hj : j < 32
  · by_cases e : k = j
    · subst e; simp [hk]
    · rw [if_neg e]
      simp [hj, h j hj (Ne.symm e)]
  · have e : k ≠ j := by omega
    rw [if_neg e]
    simp [List.getElem?_eq_none (show (List.range 32).length ≤ j by simp; omega)]
theorem join_rows (R : Rg) {k : Nat} (hk : k < 32) (id x : Int) : usL (R.joined k id x) = (usL R).set k true ∧ lvL (R.joined k id x) = (lvL R).set k true ∧ idL (R.joined k id x) = (idL R).set k id := by
  refine ⟨?_, ?_, ?_⟩
  · have := list_set32 (fun (j : Nat) => (R.pl (j : Int)).isSome) (fun (j : Nat) => ((R.joined k id x).pl (j : Int)).isSome) k hk (fun j hj hne => by rw [pl_joined, if_neg (by omega)])
    rw [pl_joined, if_pos rfl] at this
    exact this
  · have := list_set32 (fun (j : Nat) => R.lives (j : Int)) (fun (j : Nat) => (R.joined k id x).lives (j : Int)) k hk (fun j hj hne => by rw [lives_joined, if_neg (by omega)])
    rw [lives_joined, if_pos rfl] at this
    exact this
  · have := list_set32 (fun (j : Nat) => R.idOf (j : Int)) (fun (j : Nat) => (R.joined k id x).idOf (j : Int)) k hk (fun j hj hne => by unfold Rg.idOf; rw [pl_joined, if_neg (by omega)])
    have e : (R.joined k id x).idOf (k : Int) = id := by unfold Rg.idOf; rw [pl_joined, if_pos rfl]; rfl
    rw [e] at this
    exact this
theorem KnP.join {X : World} {B gp : Nat} {R : Rg} {P : List Pr3} (h : KnP X B gp R P) (hl : P.length = 32) {k : Nat} (hk : k < 32) (id x : Int) (hid : u64 id) (hx : i64 x) (a' : Option Addr) (c' : Nat) (l : List Int) (hll : l = (R.know x).succ) (n : Nat) (hin : InIn X a' n l) (hc1 : n ≤ c') (hc2 : c' ≤ 9223372036854775807) (hcl : ∀ z, a' = some z → z.block < B ∨ gp < z.block) (hnil : a' = none → n = 0) :
    KnP X B gp (R.joined k id x) (P.set k ⟨id, x, a', n, c'⟩) := by
  intro j hj y hy
  rw [getD_set3 _ _ _ _ (by omega)]
  have e : (R.joined k id x).kn j = if (j : Int) = k then some ⟨id, x, (R.know x).succ⟩ else R.kn j := rfl
  rw [e] at hy
  by_cases ej : j = k
  · subst ej
    rw [if_pos rfl] at hy ⊢
    cases hy
    exact ⟨rfl, rfl, ⟨hid, hx, by rw [← hll]; exact hin, hc1, hc2, hnil⟩, hcl⟩
  · rw [if_neg (by omega)] at hy
    rw [if_neg ej]
    exact h j hj y hy
theorem RfB.setU {w X : World} {gu cu gl cl gi ci gp cp : Nat} {U L : List Bool} {I : List Int} {P : List Pr3} (h : RfB w X gu cu gl cl gi ci gp cp U L I P) (k : Nat) (b : Bool) : RfB w (X.setCell ⟨gu, k, none⟩ (.bool b)) gu cu gl cl gi ci gp cp (U.set k b) L I P := by
  have hn := h.o.ne
  have hl := h.lo
  exact ⟨(Below.heap_setCell _ _ _ _ (by show w.heap.size ≠ gu; omega)).trans h.box, (Below.heap_setCell _ _ _ _ (by show w.heap.size + 1 ≠ gu; omega)).trans h.res, h.o.setU k b, h.bel.setCell (by show w.heap.size ≤ gu; omega) _, h.lo⟩
theorem RfB.setL {w X : World} {gu cu gl cl gi ci gp cp : Nat} {U L : List Bool} {I : List Int} {P : List Pr3} (h : RfB w X gu cu gl cl gi ci gp cp U L I P) (k : Nat) (b : Bool) : RfB w (X.setCell ⟨gl, k, none⟩ (.bool b)) gu cu gl cl gi ci gp cp U (L.set k b) I P := by
  have hn := h.o.ne
  have hl := h.lo
  exact ⟨(Below.heap_setCell _ _ _ _ (by show w.heap.size ≠ gl; omega)).trans h.box, (Below.heap_setCell _ _ _ _ (by show w.heap.size + 1 ≠ gl; omega)).trans h.res, h.o.setL k b, h.bel.setCell (by show w.heap.size ≤ gl; omega) _, h.lo⟩
theorem RfB.setI {w X : World} {gu cu gl cl gi ci gp cp : Nat} {U L : List Bool} {I : List Int} {P : List Pr3} (h : RfB w X gu cu gl cl gi ci gp cp U L I P) (k : Nat) (b : Int) (hb : u64 b) : RfB w (X.setCell ⟨gi, k, none⟩ (.int .u64 b)) gu cu gl cl gi ci gp cp U L (I.set k b) P := by
  have hn := h.o.ne
  have hl := h.lo
  exact ⟨(Below.heap_setCell _ _ _ _ (by show w.heap.size ≠ gi; omega)).trans h.box, (Below.heap_setCell _ _ _ _ (by show w.heap.size + 1 ≠ gi; omega)).trans h.res, h.o.setI k b hb, h.bel.setCell (by show w.heap.size ≤ gi; omega) _, h.lo⟩
theorem RfO.cellU {B : Nat} {w : World} {gu cu gl cl gi ci gp cp : Nat} {U L : List Bool} {I : List Int} {P : List Pr3} (h : RfO B w gu cu gl cl gi ci gp cp U L I P) {k : Nat} (hk : k < 32) : w.cell? ⟨gu, k, none⟩ = some (.bool (U.getD k false)) ∧ w.cell? ⟨gl, k, none⟩ = some (.bool (L.getD k false)) ∧ w.cell? ⟨gi, k, none⟩ = some (.int .u64 (I.getD k 0)) := by
  refine ⟨?_, ?_, ?_⟩
  · obtain ⟨b, o, hh, _, _, hc⟩ := (own_inB h.u).one (v := Value.bool) (fun _ => rfl) (i := k) hk
    simp only [Option.some.injEq, Addr.mk.injEq, and_true] at hh
    obtain ⟨rfl, rfl⟩ := hh
    simpa using hc
  · obtain ⟨b, o, hh, _, _, hc⟩ := (own_inB h.l).one (v := Value.bool) (fun _ => rfl) (i := k) hk
    simp only [Option.some.injEq, Addr.mk.injEq, and_true] at hh
    obtain ⟨rfl, rfl⟩ := hh
    simpa using hc
  · obtain ⟨b, o, hh, _, _, hc⟩ := (own_inU h.i h.ok.1).one (v := Value.int .u64) (fun _ => rfl) (i := k) hk
    simp only [Option.some.injEq, Addr.mk.injEq, and_true] at hh
    obtain ⟨rfl, rfl⟩ := hh
    simpa using hc
theorem mem_takenF {R : Rg} {id : Int} (h : ∀ i, i < R.live.length → R.idOf (R.live.getD i 0) ≠ id) : R.taken id = false := by
  unfold Rg.taken anyF
  rw [List.any_eq_false]
  intro m hm
  obtain ⟨i, hi, rfl⟩ := List.getElem_of_mem hm
  have := h i hi
  rw [List.getD_eq_getElem?_getD, List.getElem?_eq_getElem hi] at this
  simpa using this
theorem mem_takenT {R : Rg} {id : Int} {i : Nat} (hi : i < R.live.length) (h : R.idOf (R.live.getD i 0) = id) : R.taken id = true := by
  unfold Rg.taken anyF
  rw [List.any_eq_true]
  refine ⟨R.live[i], List.getElem_mem hi, ?_⟩
  rw [List.getD_eq_getElem?_getD, List.getElem?_eq_getElem hi] at h
  simpa using h
theorem plc_u {x : Int} (h : Plc x) : 0 ≤ x ∧ x ≤ 18446744073709551615 := by unfold Plc at h; omega
/-- Where the ring is turned: the new member's rows. -/
structure RfT (w X : World) (R : Rg) (k p : Nat) (id : Int) (gu cu gl cl gi ci gp cp : Nat) (P : List Pr3) : Prop where
  b : RfB w X gu cu gl cl gi ci gp cp (usL (R.joined k id p)) (lvL (R.joined k id p)) (idL (R.joined k id p)) P
  kn : KnP X w.heap.size gp R P

set_option maxRecDepth 100000 in
set_option maxHeartbeats 8000000 in
theorem rjoin_r (R : Rg) (v : Value) (n id via : Int) (w : World) (h : RfV w R v) (hi : Inv R) (hid : u64 id) :
    Calls Tryz.prog 58 #[v, .int .i64 n, .int .u64 id, .int .i64 via] w fun e w' => ∃ v', e = .returned (.tuple #[v', .int .i64 (R.joinC n id via)]) ∧ RfV w' (R.join n id via) v' ∧ Below w.heap.size w w' := by
  obtain ⟨i0, hif, hz0, hz1, hz2⟩ := info_of Tryz.infoInt
  have HV : Hid (RfV w R v ∧ Inv R ∧ u64 id) := ⟨h, hi, hid⟩
  obtain ⟨ua, uc, la, lc, ia, ic, pa, pc, P, rfl, h1, h2, h3, h4, h5⟩ := h.ex
  have HIN : Hid (LvIn w ua 32 (usL R) ∧ LvIn w la 32 (lvL R) ∧ IdIn w ia 32 (idL R) ∧ InRow 3 Pr3.cells Pr3.ok pr30 w pa 32 P ∧ ∀ j : Nat, j < 32 → PrOk w (R.kn j) (P.getD j pr30)) := ⟨h1, h2, h3, h4, h5⟩
  clear h h1 h2 h3 h4 h5 hi hid
  obtain ⟨W1, hW1⟩ : ∃ W1, W1 = (w.alloc (.cells #[.slice ua 32 uc, .slice la 32 lc, .slice ia 32 ic, .slice pa 32 pc] 32)).alloc (.cells #[.slice none 0 0, .slice none 0 0, .slice none 0 0, .slice none 0 0] 32) := ⟨_, rfl⟩
  have H1 : Hid (RfI w W1 (.slice ua 32 uc) (.bool true) (.slice la 32 lc) (.bool true) (.slice ia 32 ic) (.bool true) (.slice pa 32 pc) (.bool true)) := by rw [hW1]; exact RfI.start w _ _ _ _ _
  obtain ⟨r0, r1, r2, r3, rl⟩ := c4_block H1.out.box
  obtain ⟨s0, s1, s2, s3, sl⟩ := c4_block H1.out.res
  have sf := fz_block H1.out.res
  have ha1 := ans4 (HV.out.1.below H1.out.bel) H1.out.bel H1.out.res ⟨_, _, _, rfl⟩ ⟨_, _, _, rfl⟩ ⟨_, _, _, rfl⟩ ⟨_, _, _, rfl⟩
  have HA1 : Hid _ := ha1
  clear ha1
  by_cases hr : n < 0 ∨ 32 ≤ n
  · have E : Hid (R.joinC n id via = 1 ∧ R.join n id via = R) := (by simp [Rg.join, Rg.joinC, hr] : R.joinC n id via = 1 ∧ R.join n id via = R)
    have hr' : n < 0 ∨ (¬ n < 0 ∧ 31 < n) := by omega
    clear hr
    rcases hr' with hr | ⟨hr0, hr⟩
    all_goals
      go_enter Tryz.func58, Tryz.ntmps58
      go_upto_region 1 with fail
      rw [← hW1]
      clear hW1
      go_wp2
      refine bodyPost_ret (v := .tuple #[.agg #[.slice ua 32 uc, .slice la 32 lc, .slice ia 32 ic, .slice pa 32 pc], .int .i64 1]) (by simp [results, Tryz.results58, go_sem, s0, s1, s2, s3]) rfl ⟨_, by rw [E.out.1], by rw [E.out.2]; exact HA1.out.1, HA1.out.2⟩
  · obtain ⟨k, hk⟩ : ∃ k : Nat, n = k := ⟨n.toNat, by omega⟩
    subst hk
    have hk32 : k < 32 := by omega
    have hkI : (0 : Int) ≤ (k : Int) ∧ (k : Int) < 32 := by omega
    have hk31 : ¬ (31 : Int) < (k : Int) := by omega
    have HR : Hid (¬ ((k : Int) < 0 ∨ 32 ≤ (k : Int))) := hr
    clear hr
    obtain ⟨ub, uo, hua, hub, _, huc⟩ := (HIN.out.1.below (Nat.le_refl _) H1.out.bel).one (v := Value.bool) (fun _ => rfl) (i := k) hk32
    rw [usL_getD R hk32] at huc
    subst hua
    by_cases hu : (R.pl k).isSome = true
    · rw [hu] at huc
      have E : Hid (R.joinC k id via = 7 ∧ R.join k id via = R) := (by have := HR.out; simp [Rg.join, Rg.joinC, this, hu] : R.joinC k id via = 7 ∧ R.join k id via = R)
      go_enter Tryz.func58, Tryz.ntmps58
      go_upto_region 1 with fail
      rw [← hW1]
      clear hW1
      go_wp2
      refine bodyPost_ret (v := .tuple #[.agg #[.slice (some ⟨ub, uo, none⟩) 32 uc, .slice la 32 lc, .slice ia 32 ic, .slice pa 32 pc], .int .i64 7]) (by simp [results, Tryz.results58, go_sem, s0, s1, s2, s3]) rfl ⟨_, by rw [E.out.1], by rw [E.out.2]; exact HA1.out.1, HA1.out.2⟩
    · have hu' : (R.pl k).isSome = false := by simpa using hu
      rw [hu'] at huc
      have HU : Hid ((R.pl k).isSome = false) := hu'
      clear hu hu'
      go_enter Tryz.func58, Tryz.ntmps58
      go_upto_region 1 with fail
      rw [← hW1]
      clear hW1 s0 s1 s2 s3 sl sf HA1
      obtain ⟨bv, hbv⟩ : ∃ b, b = R.lives via := ⟨_, rfl⟩
      have HW : Hid (RfW w (lvL R) (idL R) (.agg #[.slice la 32 lc, .slice ia 32 ic]) ∧ livesB (lvL R) via = bv ∧ bv = R.lives via) := ⟨⟨la, 32, lc, ia, 32, ic, rfl, HIN.out.2.1, HIN.out.2.2.1⟩, by rw [livesB_R HV.out.2.1, hbv], hbv⟩
      clear hbv
      go_wp2_with fail
      refine (rlives_r _ _ _ _ _ (HW.out.1.below H1.out.bel)).mono ?_
      rintro e w2 ⟨rfl, hb2⟩
      rw [HW.out.2.1]
      have H2 : Hid (RfI w w2 (.slice (some ⟨ub, uo, none⟩) 32 uc) (.bool true) (.slice la 32 lc) (.bool true) (.slice ia 32 ic) (.bool true) (.slice pa 32 pc) (.bool true)) := H1.out.below hb2
      clear r0 r1 r2 r3 rl H1 hb2 hub huc
      obtain ⟨r0, r1, r2, r3, rl⟩ := c4_block H2.out.box
      cases bv
      · obtain ⟨s0, s1, s2, s3, sl⟩ := c4_block H2.out.res
        have sf := fz_block H2.out.res
        have ha := ans4 (HV.out.1.below H2.out.bel) H2.out.bel H2.out.res ⟨_, _, _, rfl⟩ ⟨_, _, _, rfl⟩ ⟨_, _, _, rfl⟩ ⟨_, _, _, rfl⟩
        have E : Hid (R.joinC k id via = 6 ∧ R.join k id via = R) := (by have h1 := HR.out; have h2 := HU.out; have h3 := HW.out.2.2; simp [Rg.join, Rg.joinC, h1, h2, ← h3] : R.joinC k id via = 6 ∧ R.join k id via = R)
        go_wp2
        refine bodyPost_ret (v := .tuple #[.agg #[.slice (some ⟨ub, uo, none⟩) 32 uc, .slice la 32 lc, .slice ia 32 ic, .slice pa 32 pc], .int .i64 6]) (by simp [results, Tryz.results58, go_sem, s0, s1, s2, s3]) rfl ⟨_, by rw [E.out.1], by rw [E.out.2]; exact ha.1, ha.2⟩
      · have hvl : R.lives via = true := HW.out.2.2.symm
        have hvr := HV.out.2.1.rng via hvl
        obtain ⟨via', hvv⟩ : ∃ via' : Nat, via = via' := ⟨via.toNat, by omega⟩
        subst hvv
        have HVL : Hid (R.lives via' = true) := hvl
        clear hvl hvr
        go_wp2_with fail
        refine (rlive_r R _ _ (HV.out.1.below H2.out.bel)).mono ?_
        rintro e w3 ⟨a, c, rfl, hin, hnew, hb3⟩
        have hl32 : R.live.length ≤ 32 := liveTo_len R 32
        obtain ⟨nL, hnL⟩ : ∃ nL, nL = R.live.length := ⟨_, rfl⟩
        rw [← hnL] at hin hl32 ⊢
        have HNL : Hid (nL = R.live.length) := hnL
        have H3 : Hid (RfI w w3 (.slice (some ⟨ub, uo, none⟩) 32 uc) (.bool true) (.slice la 32 lc) (.bool true) (.slice ia 32 ic) (.bool true) (.slice pa 32 pc) (.bool true) ∧ InIn w3 a nL R.live) := ⟨H2.out.below hb3, hin⟩
        clear r0 r1 r2 r3 rl H2 hin hnew hb3 hnL
        obtain ⟨r0, r1, r2, r3, rl⟩ := c4_block H3.out.1.box
        obtain ⟨s0, s1, s2, s3, sl⟩ := c4_block H3.out.1.res
        have sf := fz_block H3.out.1.res
        have ha3 := ans4 (HV.out.1.below H3.out.1.bel) H3.out.1.bel H3.out.1.res ⟨_, _, _, rfl⟩ ⟨_, _, _, rfl⟩ ⟨_, _, _, rfl⟩ ⟨_, _, _, rfl⟩
        have HA3 : Hid _ := ha3
        clear ha3
        obtain ⟨ib, io, hia, hib, _, _⟩ := (HIN.out.2.2.1.below (Nat.le_refl _) H3.out.1.bel).one (v := Value.int .u64) (fun _ => rfl) (i := 0) (by omega)
        subst hia
        have HIC : Hid (∀ W, Below w.heap.size w W → ∀ m : Nat, m < 32 → W.cell? ⟨ib, io + m, none⟩ = some (.int .u64 (R.idOf m))) := fun W hW m hm => by
          obtain ⟨b, o, hh, _, _, hc⟩ := (HIN.out.2.2.1.below (Nat.le_refl _) hW).one (v := Value.int .u64) (fun _ => rfl) (i := m) hm
          simp only [Option.some.injEq, Addr.mk.injEq, and_true] at hh
          obtain ⟨rfl, rfl⟩ := hh
          rw [idL_getD R hm] at hc
          exact hc
        go_wp2
        go_loop [37] (fun q => ∃ j : Nat, q = .int .i64 j ∧ j ≤ nL ∧ Hid (∀ i, i < j → R.idOf (R.live.getD i 0) ≠ id)) (fun q => nL - (intOf q).toNat)
        case atStart => exact ⟨0, rfl, Nat.zero_le _, (fun i hi => absurd hi (Nat.not_lt_zero _) : ∀ i, i < 0 → R.idOf (R.live.getD i 0) ≠ id)⟩
        case round =>
          obtain ⟨j, rfl, hj, HJ⟩ := hrel
          by_cases hlt : j < nL
          · have hj0 : (0 : Int) ≤ (j : Int) := Int.natCast_nonneg _
            have hj1 : (j : Int) < (nL : Int) := by omega
            obtain ⟨b, o, ha, hb, hx, hc⟩ := H3.out.2.one (v := Value.int .i64) (fun _ => rfl) (i := j) hlt
            subst ha
            have hmem : R.live.getD j 0 ∈ R.live := by rw [List.getD_eq_getElem?_getD, List.getElem?_eq_getElem (by have := HNL.out; omega)]; simp
            have hml := (mem_live R _).1 hmem
            obtain ⟨m, hm⟩ : ∃ m : Nat, R.live.getD j 0 = m := ⟨(R.live.getD j 0).toNat, by omega⟩
            have hm32 : m < 32 := by omega
            have hmI : (0 : Int) ≤ (m : Int) ∧ (m : Int) < 32 := by omega
            have hci := HIC.out w3 H3.out.1.bel m hm32
            rw [hm] at hc
            have HM : Hid (R.live.getD j 0 = m) := hm
            clear hmem hml hm hx
            by_cases he : R.idOf m = id
            · have E : Hid (R.joinC k id via' = 8 ∧ R.join k id via' = R) := (by have h1 := HR.out; have h2 := HU.out; have h3 := HVL.out; have h4 := mem_takenT (R := R) (id := id) (i := j) (by have := HNL.out; omega) (by rw [HM.out]; exact he); simp [Rg.join, Rg.joinC, h1, h2, h3, h4] : R.joinC k id via' = 8 ∧ R.join k id via' = R)
              rw [he] at hci
              have ee : (id == id) = true := by simp
              clear he
              go_wp2
              refine bodyPost_ret (v := .tuple #[.agg #[.slice (some ⟨ub, uo, none⟩) 32 uc, .slice la 32 lc, .slice (some ⟨ib, io, none⟩) 32 ic, .slice pa 32 pc], .int .i64 8]) (by simp [results, Tryz.results58, go_sem, s0, s1, s2, s3]) rfl ⟨_, by rw [E.out.1], by rw [E.out.2]; exact HA3.out.1, HA3.out.2⟩
            · have HJ2 : Hid (∀ i, i < j + 1 → R.idOf (R.live.getD i 0) ≠ id) := fun i hi => by
                by_cases e : i = j
                · rw [e, HM.out]; exact he
                · exact HJ.out i (by omega)
              generalize R.idOf m = im at hci he
              have ee : (im == id) = false := by simpa using he
              clear he
              go_wp2
              go_round
              case rel => exact ⟨j + 1, by go_num, by omega, HJ2⟩
              case measure => simp [intOf]; omega
          · have hj1 : ¬ (j : Int) < (nL : Int) := by omega
            obtain rfl : j = nL := by omega
            have HT : Hid (R.taken id = false) := mem_takenF (by rw [← HNL.out]; exact HJ.out)
            have HI3 : Hid (RfI w w3 (.slice (some ⟨ub, uo, none⟩) 32 uc) (.bool true) (.slice la 32 lc) (.bool true) (.slice (some ⟨ib, io, none⟩) 32 ic) (.bool true) (.slice pa 32 pc) (.bool true)) := H3.out.1
            clear HJ HNL H3 s0 s1 s2 s3 sl sf HA3 r0 r1 r2 r3 rl
            go_wp2
            obtain ⟨pb, po, hpa, hpblt, hpcells⟩ := HIN.out.2.2.2.1.2.2.resolve_left (by omega)
            subst hpa
            have HPC : Hid (∀ W, Below w.heap.size w W → pb < W.heap.size ∧ ∀ m : Nat, m < 32 → W.cell? ⟨pb, po + m * 3, none⟩ = some (.int .u64 (P.getD m pr30).id) ∧ W.cell? ⟨pb, po + m * 3 + 1, none⟩ = some (.int .i64 (P.getD m pr30).pred) ∧ W.cell? ⟨pb, po + m * 3 + 2, none⟩ = some (.slice (P.getD m pr30).a (P.getD m pr30).len (P.getD m pr30).cap)) := fun W hW =>
              ⟨Nat.lt_of_lt_of_le hpblt hW.size, fun m hm => ⟨(hW.cell (p := ⟨pb, po + m * 3, none⟩) hpblt).trans ((hpcells m hm).2 0 (by omega)), (hW.cell (p := ⟨pb, po + m * 3 + 1, none⟩) hpblt).trans ((hpcells m hm).2 1 (by omega)), (hW.cell (p := ⟨pb, po + m * 3 + 2, none⟩) hpblt).trans ((hpcells m hm).2 2 (by omega))⟩⟩
            clear hpblt hpcells
            go_loopg [13, 12] 33 (fun kx q x wr => ∃ i p : Nat, q = .int .i64 i ∧ x = .int .i64 p ∧ i ≤ 33 ∧ kx = 33 - i ∧ Hid (Below w3.heap.size w3 wr ∧ R.lives p = true ∧ R.aheadF id (33 - i) p = R.ahead id via'))
            case atStart => exact ⟨0, via', rfl, rfl, Nat.zero_le _, rfl, (⟨Below.refl _ _, HVL.out, rfl⟩ : Below w3.heap.size w3 w3 ∧ _ ∧ _)⟩
            case round =>
              obtain ⟨i, p, rfl, rfl, hi33, rfl, H⟩ := hrel
              have hI := HI3.out.below H.out.1
              have hbw := hI.bel
              by_cases hlt : i < 33
              · have hiI : (i : Int) < 33 := by omega
                have hp32' := HV.out.2.1.rng _ H.out.2.1
                have hp32 : p < 32 := by omega
                have hpI : (0 : Int) ≤ (p : Int) ∧ (p : Int) < 32 := by omega
                clear hp32'
                have hhd := HV.out.2.1.head H.out.2.1
                obtain ⟨q0, hq0⟩ : ∃ q0 : Nat, R.head p = q0 := ⟨(R.head p).toNat, by have := HV.out.2.1.rng _ hhd.1; omega⟩
                rw [hq0] at hhd
                have hq32' := HV.out.2.1.rng _ hhd.1
                have hq32 : q0 < 32 := by omega
                have hkp : ∃ y, R.kn p = some y := by
                  cases hy : R.kn p with
                  | none => have := H.out.2.1; simp [Rg.lives, hy] at this
                  | some y => exact ⟨y, rfl⟩
                obtain ⟨y, hy⟩ := hkp
                have hpk := HIN.out.2.2.2.2 p hp32 y hy
                have ek : R.know p = y := by simp [Rg.know, hy]
                obtain ⟨p0, p1, p2⟩ := (HPC.out wr hbw).2 p hp32
                have hpbz := (HPC.out wr hbw).1
                generalize (P.getD p pr30).id = mid at p0
                generalize (P.getD p pr30).pred = mpr at p1
                obtain ⟨ma, hma⟩ : ∃ ma, ma = (P.getD p pr30).a := ⟨_, rfl⟩
                obtain ⟨ml, hml⟩ : ∃ ml, ml = (P.getD p pr30).len := ⟨_, rfl⟩
                obtain ⟨mc, hmc⟩ : ∃ mc, mc = (P.getD p pr30).cap := ⟨_, rfl⟩
                rw [← hma, ← hml, ← hmc] at p2
                have HL : Hid (InIn wr ma ml (R.know p).succ ∧ headI (lvL R) (R.know p).succ = q0 ∧ R.head p = q0 ∧ R.lives q0 = true) := ⟨by rw [ek, hma, hml]; exact hpk.2.2.row.below (Nat.le_refl _) hbw, by rw [headI_R HV.out.2.1, ← hq0]; unfold Rg.head; rw [HV.out.2.1.lv], hq0, hhd.1⟩
                clear hma hml hmc ek hpk hy hq0 hhd hq32'
                obtain ⟨o0, o1, o2, o3, ol⟩ := c4_block hI.box
                go_upto_region 17 with fail
                obtain ⟨ι, F, _, hF0, hFb, hFc⟩ := grown_fam wr
                have f1 : ∀ i, (F i).cell? ⟨w.heap.size, 1, none⟩ = _ := fun i => cell_grown o1 (hFb i)
                have f2 : ∀ i, (F i).cell? ⟨w.heap.size, 2, none⟩ = _ := fun i => cell_grown o2 (hFb i)
                have f3 : ∀ i, (F i).cell? ⟨w.heap.size, 3, none⟩ = _ := fun i => cell_grown o3 (hFb i)
                have g0 : ∀ i, (F i).cell? ⟨pb, po + p * 3, none⟩ = _ := fun i => cell_grown p0 (hFb i)
                have g1 : ∀ i, (F i).cell? ⟨pb, po + p * 3 + 1, none⟩ = _ := fun i => cell_grown p1 (hFb i)
                have g2 : ∀ i, (F i).cell? ⟨pb, po + p * 3 + 2, none⟩ = _ := fun i => cell_grown p2 (hFb i)
                have HF : Hid ((∃ i, { wr with drawn := wr.drawn + 1 } = F i) ∧ (∀ i, Below wr.heap.size wr (F i)) ∧ (∀ i W, Below wr.heap.size (F i) W → ∃ j, W = F j)) := ⟨hF0, hFb, hFc⟩
                have HRf : Hid (∀ i, RfW (F i) (lvL R) (idL R) (.agg #[.slice la 32 lc, .slice (some ⟨ib, io, none⟩) 32 ic])) := fun i => (HW.out.1.below hbw).below (hFb i)
                have HLi : Hid (∀ i, InIn (F i) ma ml (R.know p).succ) := fun i => HL.out.1.below (Nat.le_refl _) (hFb i)
                have HBW : Hid (Below w.heap.size w wr) := hbw
                clear hF0 hFb hFc o0 o1 o2 o3 ol p0 p1 p2 hI hbw hpbz
                refine wp_region_fam F HF.out.1 (by kernel_rfl) (by kernel_rfl) ?_
                repeat (go_big_quiet_step (first
                  | (go_at_call 106; refine (rhead_r (lvL R) (idL R) _ _ _ ma ml mc (R.know p).succ _ (HRf.out _) (HLi.out _)).mono ?_; rintro e' w' ⟨hs, hb⟩; exact ⟨by rw [hs, HL.out.2.1], HF.out.2.2 _ _ (hb.mono (HF.out.2.1 _).size)⟩)))
                refine wpQuiet_nil ?_
                rintro _ ⟨i2, rfl⟩
                have HB5 := HF.out.2.1 i2
                have HX : Hid (Below w3.heap.size w3 (F i2)) := H.out.1.trans (HB5.mono H.out.1.size)
                clear f1 f2 f3 g0 g1 g2 HF HRf HLi HB5
                generalize F i2 = W5 at HX ⊢
                have hI5 := HI3.out.below HX.out
                obtain ⟨o0, o1, o2, o3, ol⟩ := c4_block hI5.box
                have hip := HIC.out W5 hI5.bel p hp32
                have hup := HV.out.2.1.u p
                have huq := HV.out.2.1.u q0
                obtain ⟨wb, hwb⟩ : ∃ wb, wb = withinB id (R.idOf p) (R.idOf q0) := ⟨_, rfl⟩
                have HWB : Hid (wb = withinB id (R.idOf p) (R.idOf q0) ∧ idI (idL R) q0 = R.idOf q0) := ⟨hwb, idI_R (by omega) (by omega)⟩
                have HPl : Hid ((0 ≤ R.idOf p ∧ R.idOf p ≤ 18446744073709551615) ∧ (0 ≤ R.idOf q0 ∧ R.idOf q0 ≤ 18446744073709551615)) := ⟨plc_u hup, plc_u huq⟩
                obtain ⟨ip, hip0⟩ : ∃ ip, ip = R.idOf p := ⟨_, rfl⟩
                rw [← hip0] at hip HWB HPl
                have HIP : Hid (R.idOf p = ip) := hip0.symm
                clear hip0
                clear hup huq hwb
                go_upto_region 18 with fail
                obtain ⟨ι3, F, _, hF0, hFb, hFc⟩ := grown_fam W5
                have f1 : ∀ i, (F i).cell? ⟨w.heap.size, 1, none⟩ = _ := fun i => cell_grown o1 (hFb i)
                have f2 : ∀ i, (F i).cell? ⟨w.heap.size, 2, none⟩ = _ := fun i => cell_grown o2 (hFb i)
                have g0 : ∀ i, (F i).cell? ⟨ib, io + p, none⟩ = _ := fun i => cell_grown hip (hFb i)
                have HF : Hid ((∃ i, { W5 with drawn := W5.drawn + 1 } = F i) ∧ (∀ i, Below W5.heap.size W5 (F i)) ∧ (∀ i W, Below W5.heap.size (F i) W → ∃ j, W = F j)) := ⟨hF0, hFb, hFc⟩
                have HRf : Hid (∀ i, RfW (F i) (lvL R) (idL R) (.agg #[.slice la 32 lc, .slice (some ⟨ib, io, none⟩) 32 ic])) := fun i => (HW.out.1.below hI5.bel).below (hFb i)
                clear hF0 hFb hFc o0 o1 o2 o3 ol hip hI5
                refine wp_region_fam F HF.out.1 (by kernel_rfl) (by kernel_rfl) ?_
                repeat (go_big_quiet_step (first
                  | (go_at_call 108; refine (rid_r (lvL R) (idL R) _ _ _ (HRf.out _)).mono ?_; rintro e' w' ⟨hs, hb⟩; exact ⟨by rw [hs, HWB.out.2], HF.out.2.2 _ _ (hb.mono (HF.out.2.1 _).size)⟩)
                  | (go_at_call 107; refine (refwithin_any _ _ _ _ HV.out.2.2 HPl.out.1 HPl.out.2).mono ?_; rintro e' w' ⟨hs, hb⟩; exact ⟨by rw [hs, ← HWB.out.1], HF.out.2.2 _ _ (by rw [hb]; exact Below.refl _ _)⟩)))
                refine wpQuiet_nil ?_
                rintro _ ⟨i3, rfl⟩
                have HB6 := HF.out.2.1 i3
                have HX6 : Hid (Below w3.heap.size w3 (F i3)) := HX.out.trans (HB6.mono HX.out.size)
                clear f1 f2 g0 HF HRf HB6 HX
                generalize F i3 = W6 at HX6 ⊢
                have HAF : Hid (R.aheadF id (33 - i) p = if wb then (p : Int) else R.aheadF id (33 - (i + 1)) q0) := by
                  have e : 33 - i = (33 - (i + 1)) + 1 := by omega
                  show R.aheadF id (33 - i) p = _
                  rw [e]
                  show (if withinB id (R.idOf p) (R.idOf (R.head p)) then (p : Int) else R.aheadF id (33 - (i + 1)) (R.head p)) = _
                  rw [HL.out.2.2.1, HIP.out, ← HWB.out.1]
                cases wb
                · have HN : Hid (R.aheadF id (33 - (i + 1)) q0 = R.ahead id via') := by
                    have h1 := HAF.out
                    rw [if_neg (by simp)] at h1
                    exact h1.symm.trans H.out.2.2
                  have HQL : Hid (R.lives q0 = true) := HL.out.2.2.2
                  clear H HAF HWB HL
                  go_wp2
                  go_roundg (33 - (i + 1))
                  case measure => omega
                  case rel => exact ⟨i + 1, q0, by go_num, rfl, by omega, rfl, (⟨HX6.out, HQL.out, HN.out⟩ : Below _ _ _ ∧ _ ∧ _)⟩
                · have HA : Hid (R.ahead id via' = p) := by
                    have h1 := HAF.out
                    rw [if_pos rfl] at h1
                    exact H.out.2.2.symm.trans h1
                  have HPL : Hid (R.lives p = true) := H.out.2.1
                  have E : Hid (R.joinC k id via' = 0 ∧ R.join k id via' = R.joined k id p) := by
                    have h1 := HR.out; have h2 := HU.out; have h3 := HVL.out; have h4 := HT.out; have h5 := HA.out
                    have hc : R.joinC k id via' = 0 := by
                      unfold Rg.joinC
                      rw [if_neg h1, if_neg (by rw [h2]; simp), if_neg (by rw [h3]; simp), if_neg (by rw [h4]; simp), if_neg (by rw [h5]; omega)]
                    exact ⟨hc, by unfold Rg.join; rw [if_pos hc, h5]⟩
                  clear H HAF HWB HL HA HT HVL HU HR
                  have hI6 := HI3.out.below HX6.out
                  obtain ⟨o0, o1, o2, o3, ol⟩ := c4_block hI6.box
                  have of6 := fz_block hI6.box
                  have HI6 : Hid (RfI w W6 (.slice (some ⟨ub, uo, none⟩) 32 uc) (.bool true) (.slice la 32 lc) (.bool true) (.slice (some ⟨ib, io, none⟩) 32 ic) (.bool true) (.slice (some ⟨pb, po, none⟩) 32 pc) (.bool true)) := hI6
                  clear hI6
                  go_wp2_with fail
                  refine (rcopy_r (some ⟨ub, uo, none⟩) la (some ⟨ib, io, none⟩) (some ⟨pb, po, none⟩) uc lc ic pc (usL R) (lvL R) (idL R) P W6 (HIN.out.1.below (Nat.le_refl _) HI6.out.bel) (HIN.out.2.1.below (Nat.le_refl _) HI6.out.bel) (HIN.out.2.2.1.below (Nat.le_refl _) HI6.out.bel) (HIN.out.2.2.2.1.below (Nat.le_refl _) HI6.out.bel)).mono ?_
                  rintro e w7 ⟨gu, cu, gl, cl, gi, ci, gp, cp, rfl, ho7, hb7⟩
                  obtain ⟨X7, hX7⟩ : ∃ X7, X7 = set4 w7 w.heap.size (.slice (some ⟨gu, 0, none⟩) 32 cu) (.slice (some ⟨gl, 0, none⟩) 32 cl) (.slice (some ⟨gi, 0, none⟩) 32 ci) (.slice (some ⟨gp, 0, none⟩) 32 cp) := ⟨_, rfl⟩
                  have H7 : Hid (RfB w X7 gu cu gl cl gi ci gp cp (usL R) (lvL R) (idL R) P ∧ KnP X7 w.heap.size gp R P) := by
                    have hB : RfB w X7 gu cu gl cl gi ci gp cp (usL R) (lvL R) (idL R) P := by rw [hX7]; exact RfB.start (B := 0) HI6.out ho7 hb7
                    exact ⟨hB, KnP.ofV HV.out.2.1 HIN.out.2.2.2.2 hB.bel⟩
                  have h77 := HI6.out.below hb7
                  clear o0 o1 o2 o3 ol of6
                  obtain ⟨o0, o1, o2, o3, ol⟩ := c4_block h77.box
                  have of7 := fz_block h77.box
                  unfold set4 at hX7
                  unfold rfv
                  clear ho7 hb7 h77 HI6 HIC HPC HIN HW HX6
                  go_upto_region 20 with fail
                  rw [← hX7]
                  clear hX7 o0 o1 o2 o3 ol of7
                  have hn7 := H7.out.1.o.ne
                  have hlo7 := H7.out.1.lo
                  -- used
                  obtain ⟨o0, o1, o2, o3, ol⟩ := c4_block H7.out.1.box
                  obtain ⟨cu0, cl0, ci0⟩ := H7.out.1.o.cellU hk32
                  have fu0 := (H7.out.1.o.fz k).1
                  obtain ⟨X8, hX8⟩ : ∃ X8, X8 = X7.setCell ⟨gu, k, none⟩ (.bool true) := ⟨_, rfl⟩
                  have H8 : Hid (RfB w X8 gu cu gl cl gi ci gp cp ((usL R).set k true) (lvL R) (idL R) P ∧ KnP X8 w.heap.size gp R P) := by rw [hX8]; exact ⟨H7.out.1.setU k true, H7.out.2.set gu _ ⟨by omega, by omega⟩ _⟩
                  go_upto_region 21 with fail
                  rw [← hX8]
                  clear hX8 o0 o1 o2 o3 ol cu0 cl0 ci0 fu0 H7
                  obtain ⟨o0, o1, o2, o3, ol⟩ := c4_block H8.out.1.box
                  obtain ⟨cu0, cl0, ci0⟩ := H8.out.1.o.cellU hk32
                  have fu0 := (H8.out.1.o.fz k).2.1
                  obtain ⟨X9, hX9⟩ : ∃ X9, X9 = X8.setCell ⟨gl, k, none⟩ (.bool true) := ⟨_, rfl⟩
                  have H9 : Hid (RfB w X9 gu cu gl cl gi ci gp cp ((usL R).set k true) ((lvL R).set k true) (idL R) P ∧ KnP X9 w.heap.size gp R P) := by rw [hX9]; exact ⟨H8.out.1.setL k true, H8.out.2.set gl _ ⟨by omega, by omega⟩ _⟩
                  go_upto_region 22 with fail
                  rw [← hX9]
                  clear hX9 o0 o1 o2 o3 ol cu0 cl0 ci0 fu0 H8
                  obtain ⟨o0, o1, o2, o3, ol⟩ := c4_block H9.out.1.box
                  obtain ⟨cu0, cl0, ci0⟩ := H9.out.1.o.cellU hk32
                  have fu0 := (H9.out.1.o.fz k).2.2.1
                  obtain ⟨XA, hXA⟩ : ∃ XA, XA = X9.setCell ⟨gi, k, none⟩ (.int .u64 id) := ⟨_, rfl⟩
                  have HB : Hid (RfB w XA gu cu gl cl gi ci gp cp (usL (R.joined k id p)) (lvL (R.joined k id p)) (idL (R.joined k id p)) P ∧ KnP XA w.heap.size gp R P) := by
                    have hr := join_rows R hk32 id p
                    rw [hr.1, hr.2.1, hr.2.2, hXA]
                    exact ⟨H9.out.1.setI k id HV.out.2.2, H9.out.2.set gi _ ⟨by omega, by omega⟩ _⟩
                  go_upto_region 23 with fail
                  rw [← hXA]
                  clear hXA o0 o1 o2 o3 ol cu0 cl0 ci0 fu0 H9
                  have hat := HB.out.2.at HV.out.2.1 HPL.out
                  obtain ⟨u0, u1, u2⟩ := HB.out.1.o.peer hp32
                  rw [hat.2.2.2.1] at u2
                  obtain ⟨lb, lo, hsa, hlb, hlc⟩ := hat.2.2.2.2.1.row.2.2.resolve_left (by omega)
                  rw [hsa] at u2
                  have hlen3 : (R.know p).succ.length = 3 := hat.2.2.2.2.1.row.1
                  have HI64 : Hid (∀ x ∈ (R.know p).succ, i64 x) := inrow_ok hat.2.2.2.2.1.row (by omega)
                  have HNEWS : Hid (∀ W : World, (∀ b, b < XA.heap.size → W.heap[b]? = XA.heap[b]?) → ∀ j u, ((R.know p).succ.map cellI)[j]? = some u → W.cell? ((⟨lb, lo, none⟩ : Addr).add j) = some u) := fun W hW j u hu => by
                    have hj : j < 3 := by have := (List.getElem?_eq_some_iff.1 hu).1; simpa [hlen3] using this
                    have e := (hlc j hj).2 0 (by omega)
                    rw [List.getElem?_map, List.getElem?_eq_getElem (by omega)] at hu
                    simp only [Option.map_some, Option.some.injEq] at hu
                    have e2 : (R.know p).succ.getD j 0 = (R.know p).succ[j]'(by omega) := by simp [List.getD, hlen3, hj]
                    rw [e2] at e
                    rw [Addr.add_lit, ← hu, World.cell?_of_block (a := ⟨lb, lo + j, none⟩) (hW lb hlb)]
                    simpa [encI, cellI] using e
                  generalize (P.getD p pr30).cap = sc at u2
                  obtain ⟨o0, o1, o2, o3, ol⟩ := c4_block HB.out.1.box
                  obtain ⟨k0, k1, k2⟩ := HB.out.1.o.peer hk32
                  have e0 := (HB.out.1.o.fz (k * 3)).2.2.2
                  have e1 := (HB.out.1.o.fz (k * 3 + 1)).2.2.2
                  have e2 := (HB.out.1.o.fz (k * 3 + 2)).2.2.2
                  have hglt := HB.out.1.o.lt
                  obtain ⟨news, hnews⟩ : ∃ news, news = (R.know p).succ.map cellI := ⟨_, rfl⟩
                  have hnl : news.length = 3 * 1 := by rw [hnews]; simp [hlen3]
                  have hone : ∀ u ∈ news, u.oneCell' = true := by rw [hnews]; intro u hu; obtain ⟨x, _, rfl⟩ := List.mem_map.1 hu; rfl
                  rw [← hnews] at HNEWS
                  have HNW : Hid (news = (R.know p).succ.map cellI) := hnews
                  clear hat hsa hlc hlb hnews hlen3 u0 u1
                  go_cut [] (fun wx => ∃ w8 gg cap, Hid (wx = World.setCell (World.setCell (World.setCell w8 ⟨gp, k * 3, none⟩ (.int .u64 id)) ⟨gp, k * 3 + 1, none⟩ (.int .i64 (p : Int))) ⟨gp, k * 3 + 2, none⟩ (.slice (some ⟨gg, 0, none⟩) 3 cap) ∧ Below XA.heap.size XA w8 ∧ w8.ownsRow XA.heap.size 3 1 (.slice (some ⟨gg, 0, none⟩) 3 cap) 3 news ∧ XA.heap.size ≤ gg))
                  case first =>
                    go_region_law
                      ((refine step_append_lies _ (by rfl) _ _ _ (by rfl) XA.heap.size 3 i0 _ 1 8 Tryz.underlying24 hif hz0 hz1 hz2 rfl (by omega) _ _ _ (by rfl) (by first | exact own_nil1 XA.drew _ 1 | exact own_nil1 XA _ 1)
                          ⟨lb, lo, none⟩ 3 sc news (by rfl) hnl (HNEWS.out _ (fun b hb => by first | exact Below.heap_alloc XA.drew _ b hb | exact Below.heap_alloc XA _ b hb)) hone
                          (by omega) (by unfold maxLen; omega) (by omega) (by simp) (XA.heap.size + 1) (by simp) ?_; intro gg cap w8 hown1 hgrow hatg hlt3
                        have hown2 : w8.ownsRow XA.heap.size 3 1 (.slice (some ⟨gg, 0, none⟩) 3 cap) 3 news := by simpa using hown1
                        have B8 : Below XA.heap.size XA w8 := ⟨hgrow.os, hgrow.tape, hgrow.output, by have := hgrow.size; simp at this; omega, fun b hb => (hgrow.block b (by simp; omega) (fun e => by have e2 : some b = some XA.heap.size := e; simp at e2; omega)).trans (by first | exact Below.heap_alloc XA.drew _ b hb | exact Below.heap_alloc XA _ b hb)⟩
                        have hgg : XA.heap.size ≤ gg := (hown2.lt gg rfl).1
                        have y3 := cell_grown o3 B8
                        have v0 := cell_grown k0 B8
                        have v1 := cell_grown k1 B8
                        have v2 := cell_grown k2 B8
                        have z0 : w8.frozen? ⟨gp, k * 3, none⟩ = false := (World.frozen?_of_block (a := ⟨gp, k * 3, none⟩) (B8.block gp hglt.2.2.2)).trans e0
                        have z1 : w8.frozen? ⟨gp, k * 3 + 1, none⟩ = false := (World.frozen?_of_block (a := ⟨gp, k * 3 + 1, none⟩) (B8.block gp hglt.2.2.2)).trans e1
                        have z2 : w8.frozen? ⟨gp, k * 3 + 2, none⟩ = false := (World.frozen?_of_block (a := ⟨gp, k * 3 + 2, none⟩) (B8.block gp hglt.2.2.2)).trans e2
                        have yl := cell_block y3
                        have yl2 := cell_block v0))
                    all_goals (try go_wp2_with fail)
                    all_goals go_meet
                    all_goals exact ⟨w8, gg, cap, rfl, B8, hown2, hgg⟩
                  case rest =>
                    rename World => XE
                    obtain ⟨w8, gg, cap, HC⟩ := hcut
                    have hfin : RfB w XE gu cu gl cl gi ci gp cp (usL (R.joined k id p)) (lvL (R.joined k id p)) (idL (R.joined k id p)) (P.set k ⟨id, p, some ⟨gg, 0, none⟩, 3, cap⟩) ∧ KnP XE w.heap.size gp (R.joined k id p) (P.set k ⟨id, p, some ⟨gg, 0, none⟩, 3, cap⟩) := by
                      obtain ⟨hX, hb8, hrow, hgg⟩ := HC.out
                      have hB8 := HB.out.1.below hb8
                      have hlen := HB.out.1.o.len.2.2.2
                      have hm : P.getD k pr30 ∈ P := by rw [List.getD_eq_getElem?_getD, List.getElem?_eq_getElem (by omega)]; simp
                      have hok := HB.out.1.o.ok.2 _ hm
                      have hpo : i64 (p : Int) := by show -9223372036854775808 ≤ (p : Int) ∧ (p : Int) ≤ 9223372036854775807; omega
                      have s1 := hB8.setP (k := k) (j := 0) hk32 (by omega) (.int .u64 id) ⟨id, (P.getD k pr30).pred, (P.getD k pr30).a, (P.getD k pr30).len, (P.getD k pr30).cap⟩ rfl ⟨HV.out.2.2, hok.2⟩
                      have g1 : (P.set k ⟨id, (P.getD k pr30).pred, (P.getD k pr30).a, (P.getD k pr30).len, (P.getD k pr30).cap⟩).getD k pr30 = ⟨id, (P.getD k pr30).pred, (P.getD k pr30).a, (P.getD k pr30).len, (P.getD k pr30).cap⟩ := by rw [getD_set3 _ _ _ _ (by omega), if_pos rfl]
                      have s2 := s1.setP (k := k) (j := 1) hk32 (by omega) (.int .i64 (p : Int)) ⟨id, p, (P.getD k pr30).a, (P.getD k pr30).len, (P.getD k pr30).cap⟩ (by rw [g1]; rfl) ⟨HV.out.2.2, hpo⟩
                      rw [List.set_set] at s2
                      have g2 : (P.set k ⟨id, p, (P.getD k pr30).a, (P.getD k pr30).len, (P.getD k pr30).cap⟩).getD k pr30 = ⟨id, p, (P.getD k pr30).a, (P.getD k pr30).len, (P.getD k pr30).cap⟩ := by rw [getD_set3 _ _ _ _ (by omega), if_pos rfl]
                      have s3 := s2.setP (k := k) (j := 2) hk32 (by omega) (.slice (some ⟨gg, 0, none⟩) 3 cap) ⟨id, p, some ⟨gg, 0, none⟩, 3, cap⟩ (by rw [g2]; rfl) ⟨HV.out.2.2, hpo⟩
                      rw [List.set_set, Nat.add_zero] at s3
                      have hp : w.heap.size ≤ gp ∧ gp ≤ gp := ⟨by omega, Nat.le_refl _⟩
                      have hgp : ∀ x, (some ⟨gg, 0, none⟩ : Option Addr) = some x → x.block ≠ gp := fun x hx => by
                        obtain rfl := Option.some.inj hx
                        show gg ≠ gp
                        omega
                      rw [HNW.out] at hrow
                      have hL0 : InIn w8 (some ⟨gg, 0, none⟩) 3 (R.know p).succ := in_of_own hrow HI64.out (by omega)
                      rw [hX]
                      refine ⟨s3, KnP.join (l := (R.know p).succ) ((((HB.out.2.below hb8).set gp _ hp _).set gp _ hp _).set gp _ hp _) hlen hk32 id p HV.out.2.2 hpo (some ⟨gg, 0, none⟩) cap rfl 3 (((hL0.setCell hgp _).setCell hgp _).setCell hgp _) ?_ ?_ (fun z hz => .inr ?_) (fun h => by cases h)⟩
                      · rcases hrow.2 with ⟨h0, _⟩ | ⟨g', cap', cur, hv, _, _, hn, _, _⟩
                        · cases h0
                        · simp only [Value.slice.injEq] at hv; omega
                      · rcases hrow.2 with ⟨h0, _⟩ | ⟨g', cap', cur, hv, _, _, hn, hm, _⟩
                        · cases h0
                        · simp only [Value.slice.injEq] at hv; unfold maxLen at hm; omega
                      · obtain rfl := Option.some.inj hz
                        show gp < gg
                        omega
                    have HE : Hid _ := hfin
                    clear hfin HC HB o0 o1 o2 o3 ol k0 k1 k2 e0 e1 e2 u2 HNEWS HNW hnl hone HI64
                    obtain ⟨b0, b1, b2, b3, blt⟩ := c4_block HE.out.1.box
                    obtain ⟨s0, s1, s2, s3, sl⟩ := c4_block HE.out.1.res
                    have sf := fz_block HE.out.1.res
                    have ha := ans4 (RfO.toV HE.out.1.o HE.out.2) HE.out.1.bel HE.out.1.res ⟨_, _, _, rfl⟩ ⟨_, _, _, rfl⟩ ⟨_, _, _, rfl⟩ ⟨_, _, _, rfl⟩
                    have HAn : Hid _ := ha
                    clear ha
                    go_wp2
                    refine bodyPost_ret (v := .tuple #[.agg #[.slice (some ⟨gu, 0, none⟩) 32 cu, .slice (some ⟨gl, 0, none⟩) 32 cl, .slice (some ⟨gi, 0, none⟩) 32 ci, .slice (some ⟨gp, 0, none⟩) 32 cp], .int .i64 0]) (by simp [results, Tryz.results58, go_sem, s0, s1, s2, s3]) rfl ⟨_, by rw [E.out.1], by rw [E.out.2]; exact HAn.out.1, HAn.out.2⟩
              · have hiI : ¬ (i : Int) < 33 := by omega
                obtain rfl : i = 33 := by omega
                have E : Hid (R.joinC k id via' = 5 ∧ R.join k id via' = R) := by
                  have h1 := HR.out; have h2 := HU.out; have h3 := HVL.out; have h4 := HT.out
                  have h5 : R.ahead id via' = -1 := H.out.2.2.symm
                  have hc : R.joinC k id via' = 5 := by
                    unfold Rg.joinC
                    rw [if_neg h1, if_neg (by rw [h2]; simp), if_neg (by rw [h3]; simp), if_neg (by rw [h4]; simp), if_pos h5]
                  exact ⟨hc, by unfold Rg.join; rw [if_neg (by omega)]⟩
                obtain ⟨o0, o1, o2, o3, ol⟩ := c4_block hI.box
                obtain ⟨s0, s1, s2, s3, sl⟩ := c4_block hI.res
                have sf := fz_block hI.res
                have ha := ans4 (HV.out.1.below hbw) hbw hI.res ⟨_, _, _, rfl⟩ ⟨_, _, _, rfl⟩ ⟨_, _, _, rfl⟩ ⟨_, _, _, rfl⟩
                clear H hI hbw
                go_wp2
                refine bodyPost_ret (v := .tuple #[.agg #[.slice (some ⟨ub, uo, none⟩) 32 uc, .slice la 32 lc, .slice (some ⟨ib, io, none⟩) 32 ic, .slice (some ⟨pb, po, none⟩) 32 pc], .int .i64 5]) (by simp [results, Tryz.results58, go_sem, s0, s1, s2, s3]) rfl ⟨_, by rw [E.out.1], by rw [E.out.2]; exact ha.1, ha.2⟩
end Go.Proofs.YtmajlldfiiokoaaGreatDoor
