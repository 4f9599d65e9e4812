/- Proved: for every list of calls and every list of names: when one more comes to the base members the plan's moves all go to it, from one that lives, at most one a group, the groups rising, and every group has three keepers, all different; errors.errorType being laid as the program's text lays it (the card's tie, over the pruned copy).
  The frame is the guide's own shell (proof-skeleton.mjs) at this function; the walk and all ahead of it are mine. -/
import Derived.Test.YtmajlldfiiokoaaGreatDoorRows
import Derived.Test.YtmajlldfiiokoaaGreatDoorChAct
import Derived.Test.YtmajlldfiiokoaaGreatDoorChAll
import Derived.Test.YtmajlldfiiokoaaGreatDoorJoinIdCat
import Derived.Test.YtmajlldfiiokoaaGreatDoorJoinRdKeep
import Derived.Test.YtmajlldfiiokoaaGreatDoorInRow
import Derived.Test.YtmajlldfiiokoaaGreatDoorJoinRdNames
import Derived.Deep.RegionWith
import Derived.Deep.CutBlock
import Derived.Deep.DeepCutAuto
import Derived.Deep.LoopGhost
import Derived.Deep.RegionHeld3
import Derived.WalkKit
import Derived.WalkLawsBesides
import Derived.ProofKit
import Derived.OpenShut
import Derived.ChangeSame
import Derived.ChangeVars
import Derived.JoinedOf
import Derived.RowKit
import Derived.RowKitTokens
import Derived.LaidLaws
import Derived.LaidHandle
import Derived.Stop.Joined
import Derived.SevenTiedAt
import Derived.Test.YtmajlldfiiokoaaGreatDoorTie
import Derived.Test.YtmajlldfiiokoaaGreatDoorCards
import Derived.ShutString
import Derived.ChangeOld
import Derived.Below
namespace Go.Proofs.YtmajlldfiiokoaaGreatDoor.rdvFew
open Go.ChangeShapes Go.WideShapes Go.ChangeAt Go.RowKit
open Go.ChangeMaps (open_string shut_string)
set_option linter.unusedVariables false

theorem own : ownKnob Tryz.prog.godebug = none := by kernel_rfl
theorem laidOut : laidOutB Tryz.prog = true := by kernel_rfl


theorem strIn_row {W : World} {a : Option Addr} {len : Nat} {xs : List ByteArray} (h : InRow 1 encS okS ByteArray.empty W a len xs) : StrIn W a len xs := by
  refine ⟨h.1, ?_⟩
  rcases h.2.2 with h0 | ⟨b, o, ha, hlt, hc⟩
  · exact .inl h0
  · refine .inr ⟨b, o, ha, hlt, fun j hj => ?_⟩
    have := (hc j hj).2 0 (by omega)
    simpa [encS] using this
theorem rise_at {M : List Mv} (h : M.Pairwise (fun a b => ltS a.1 b.1 = true)) {j : Nat} (hj : j + 1 < M.length) : Op.bytesLess (M.getD j (ByteArray.empty, 0, 0)).1.toList (M.getD (j + 1) (ByteArray.empty, 0, 0)).1.toList = true := by
  rw [List.getD_eq_getElem?_getD, List.getD_eq_getElem?_getD, List.getElem?_eq_getElem (show j < M.length by omega), List.getElem?_eq_getElem hj]
  exact (List.pairwise_iff_getElem.1 h) j (j + 1) (by omega) hj (by omega)
theorem mv_cells {w : World} {B m : Nat} {g : Nat} {c : Nat} {L : List Mv} (h : w.ownsRow B 69 3 (.slice (some ⟨g, 0, none⟩) m c) m (L.flatMap encM)) (hm : L.length = m) {j : Nat} (hj : j < m) : g < w.heap.size ∧ w.cell? ⟨g, j * 3, none⟩ = some (.string (L.getD j (ByteArray.empty, 0, 0)).1) ∧ w.cell? ⟨g, j * 3 + 1, none⟩ = some (.int .i64 (L.getD j (ByteArray.empty, 0, 0)).2.1) ∧ w.cell? ⟨g, j * 3 + 2, none⟩ = some (.int .i64 (L.getD j (ByteArray.empty, 0, 0)).2.2) := by
  have key : ∀ i, i < 3 → w.cell? ⟨g, j * 3 + i, none⟩ = (encM (L.getD j (ByteArray.empty, 0, 0)))[i]? := fun i hi => by
    have hx := flat_get encM 3 (fun _ => rfl) (ByteArray.empty, 0, 0) L j i (by omega) hi
    have hi2 : i < (encM (L.getD j (ByteArray.empty, 0, 0))).length := hi
    have e := h.cells (g := g) rfl (j * 3 + i) ((encM (L.getD j (ByteArray.empty, 0, 0)))[i]) (by rw [hx, List.getElem?_eq_getElem hi2])
    rw [Addr.add_lit] at e
    rw [List.getElem?_eq_getElem hi2]
    simpa using e
  refine ⟨(World.ownsRow.lt h g rfl).2, ?_, ?_, ?_⟩
  · exact key 0 (by omega)
  · exact key 1 (by omega)
  · exact key 2 (by omega)
theorem idIn_kp {w w' : World} {gp gk : Nat} {a : Option Addr} {len : Nat} {l : List Int} (h : IdIn w a len l) (hk : Kp w w' gp gk) {mp mk : List (Int × Value)} (h1 : MpAt w gp mp) (h2 : MpAt w gk mk) : IdIn w' a len l := by
  refine ⟨h.1, h.2.1, ?_⟩
  rcases h.2.2 with h0 | ⟨b, o, ha, hlt, hc⟩
  · exact .inl h0
  · by_cases h0 : len = 0
    · exact .inl h0
    have hx := (hc 0 (by omega)).2 0 (by omega)
    have n1 : b ≠ gp := fun e => by rw [e, h1.no_cell] at hx; simp [encU] at hx
    have n2 : b ≠ gk := fun e => by rw [e, h2.no_cell] at hx; simp [encU] at hx
    refine .inr ⟨b, o, ha, by have := hk.size; omega, fun i hi => ⟨(hc i hi).1, fun j hj => ?_⟩⟩
    rw [World.cell?_of_block (hk.block b hlt n1 n2)]
    exact (hc i hi).2 j hj
theorem strIn_kp {w w' : World} {gp gk : Nat} {a : Option Addr} {len : Nat} {l : List ByteArray} (h : StrIn w a len l) (hk : Kp w w' gp gk) {mp mk : List (Int × Value)} (h1 : MpAt w gp mp) (h2 : MpAt w gk mk) : StrIn w' a len l := by
  refine ⟨h.1, ?_⟩
  rcases h.2 with h0 | ⟨b, o, ha, hlt, hc⟩
  · exact .inl h0
  · by_cases h0 : len = 0
    · exact .inl h0
    have hx := hc 0 (by omega)
    have n1 : b ≠ gp := fun e => by rw [e, h1.no_cell] at hx; cases hx
    have n2 : b ≠ gk := fun e => by rw [e, h2.no_cell] at hx; cases hx
    exact .inr ⟨b, o, ha, by have := hk.size; omega, fun j hj => (World.cell?_of_block (a := ⟨b, o + j, none⟩) (hk.block b hlt n1 n2)).trans (hc j hj)⟩
theorem cat_kp {w w' : World} {R : Rg} {C : List Int} {g c d n gp gk : Nat} {b : Option Addr} (h : CAt w R C g c d n b) (hk : Kp w w' gp gk) {mp mk : List (Int × Value)} (h1 : MpAt w gp mp) (h2 : MpAt w gk mk) : CAt w' R C g c d n b :=
  ⟨h.cir, h.inv, InRow.kp h.mem hk h1 h2, h.c1, h.c2, idIn_kp h.ids hk h1 h2, h.n4, h.n32⟩
theorem keep3 {C : List Int} (h : C.Nodup) {k : Nat} (hk : k < C.length) (h4 : 4 ≤ C.length) : (keepL C k).getD 0 0 ≠ (keepL C k).getD 1 0 ∧ (keepL C k).getD 1 0 ≠ (keepL C k).getD 2 0 ∧ (keepL C k).getD 0 0 ≠ (keepL C k).getD 2 0 := by
  have hn := keepL_nodup h hk
  have hl := keepL_len h4 hk
  have hp := List.pairwise_iff_getElem.1 hn
  have e : ∀ i (hi : i < 3), (keepL C k).getD i 0 = (keepL C k)[i]'(by omega) := fun i hi => by
    rw [List.getD_eq_getElem?_getD, List.getElem?_eq_getElem (by omega)]; rfl
  rw [e 0 (by omega), e 1 (by omega), e 2 (by omega)]
  exact ⟨hp 0 1 _ _ (by omega), hp 1 2 _ _ (by omega), hp 0 2 _ _ (by omega)⟩
theorem et : Tryz.prog.globalNamed "errors.errorType" = some 0 := by kernel_rfl
theorem rt : (Tryz.prog.cutTypes.find? (·.1 == "internal/reflectlite.rtype")).map (·.2) = some 259 := by kernel_rfl
theorem oneRow : ((List.range 332).filter fun t => Tryz.prog.rowNamed t [101, 114, 114, 111, 114]) = [45] := by kernel_rfl
theorem typesSize : Tryz.prog.types.size = 332 := by kernel_rfl
/-- What the tied variable gives a walk: its one cell. -/
theorem handle_of_laid {W : World} (h : laidMetH Tryz.prog Rows.rdvFewRow.laid W) : ErrType W := by
  have h' : laidMet Tryz.prog [] W ∧ handlesMet Tryz.prog Rows.rdvFewRow.laid W := h
  obtain ⟨name, u, ty, e1, e2, e3, e4, e5⟩ := h'.2 _ (List.mem_singleton.2 rfl)
  have en : name = [101, 114, 114, 111, 114] := (Option.some.inj e1).symm
  subst en
  obtain rfl := Option.some.inj (rt.symm.trans e2)
  have hm : ty ∈ (List.range 332).filter fun t => Tryz.prog.rowNamed t [101, 114, 114, 111, 114] := List.mem_filter.2 ⟨List.mem_range.2 (by rw [← typesSize]; exact e3), e4⟩
  rw [oneRow] at hm
  obtain rfl := List.mem_singleton.1 hm
  have hh : typeHandle Tryz.prog 45 = .pointer (some ⟨1, 45, none⟩) := by kernel_rfl
  rw [hh] at e5
  unfold ErrType
  simpa using World.var?_cell et e5 0

/-! ### STEP 1: the walk -/
set_option maxRecDepth 100000 in
set_option maxHeartbeats 20000000 in
theorem walk (a0 : Option Addr) (len0 cap0 : Nat) (t0 : List Ac10) (a1 : Option Addr) (len1 cap1 : Nat) (t1 : List ByteArray) (w : World) (hE : ErrType w) (w0 : InRow 4 Ac10.cells Ac10.ok ac100 w a0 len0 t0) (w1 : InRow 1 encS okS ByteArray.empty w a1 len1 t1) :
    Calls Tryz.prog 5 #[.slice a0 len0 cap0, .slice a1 len1 cap1] w fun e w' => e = .returned (.bool true) ∧ Below w.heap.size w w' := by
  have HT : Hid (AcIn w a0 len0 t0) := w0
  have HG : Hid (StrIn w a1 len1 t1) := strIn_row w1
  have hm0 := w0.2.1
  have hm1 := w1.2.1
  clear w0 w1 hE
  go_enter Tryz.func5, Tryz.ntmps5
  go_wp2_with fail
  refine (base_r w).mono ?_
  rintro e w1 ⟨rfl, h1, b1⟩
  have HB1 : Hid (Below w.heap.size w w1) := b1
  have HMd : Hid _ := made_base _ _ h1
  clear h1 b1
  go_wp2_with fail
  refine Calls.mono HMd.out ?_
  clear HMd
  rintro e w3 ⟨r, gp, gkr, x0, x1, x2, x3, rfl, hsl, hrn, _⟩
  obtain ⟨⟨p0, p1, p2, rfl⟩, ⟨p3, p4, p5, rfl⟩, ⟨p6, p7, p8, rfl⟩, ⟨p9, p10, p11, rfl⟩⟩ := hsl
  obtain ⟨W4, hW4⟩ : ∃ W4, W4 = w3.alloc (.cells #[.slice p0 p1 p2, .slice p3 p4 p5, .slice p6 p7 p8, .slice p9 p10 p11] 32) := ⟨_, rfl⟩
  have H4 : Hid (Rn w W4 r gp gkr ringA) := by
    have q := HB1.out.size
    refine Rn.below ⟨hrn.ring, hrn.inv, HB1.out.trans (hrn.bel.mono HB1.out.size), Nat.le_trans q hrn.gp, Nat.le_trans q hrn.gk⟩ ?_
    rw [hW4]; exact below_one _ _
  clear hrn HB1
  go_upto_region 2 with fail
  rw [← hW4]
  clear hW4
  by_cases hz : len0 < 1
  · have hzI : (len0 : Int) < 1 := by omega
    go_cut [30] (fun v wx => v = .bool true ∧ wx = W4)
    case first =>
      go_wp2
      go_meet
      exact ⟨by first | (simp; done) | (simp; omega), rfl⟩
    case rest =>
      rename World => W5
      obtain ⟨rfl, hw5⟩ := hcut
      subst W5
      clear hz hzI
      go_wp2_with fail
      refine (awake21_any _).mono ?_
      rintro e w5 ⟨rfl, b5⟩
      go_wp2
      go_ret
      exact ⟨rfl, H4.out.bel.trans (b5.mono H4.out.bel.size)⟩
  · have hl0 : 1 ≤ len0 := by omega
    clear hz
    have hzI : ¬ (len0 : Int) < 1 := by omega
    go_cut [30] (fun v wx => v = .bool false ∧ wx = W4)
    case first =>
      go_wp2
      go_meet
      exact ⟨by first | (simp; done) | (simp; omega), rfl⟩
    rename World => W5
    obtain ⟨rfl, hw5⟩ := hcut
    subst W5
    clear hzI
    go_wp2_with fail
    refine (of_c r gp gkr ringA _ H4.out.ring H4.out.inv).mono ?_
    rintro e w5 ⟨C, g, b, c, d, n, rfl, hc, hnl, b5⟩
    clear hnl
    obtain ⟨W6, hW6⟩ : ∃ W6, W6 = w5.alloc (.cells #[.slice (some ⟨g, 0, none⟩) n c, .slice b n d] 50) := ⟨_, rfl⟩
    obtain ⟨q, hq⟩ : ∃ q, q = w5.heap.size := ⟨_, rfl⟩
    have b6 : Below w5.heap.size w5 W6 := by rw [hW6]; exact below_one _ _
    have d0 : W6.cell? ⟨q, 0, none⟩ = some (.slice (some ⟨g, 0, none⟩) n c) := by rw [hW6, hq]; exact World.cell?_alloc_new ..
    have d1 : W6.cell? ⟨q, 1, none⟩ = some (.slice b n d) := by rw [hW6, hq]; simp
    have b46 : Below W4.heap.size W4 W6 := b5.trans (b6.mono b5.size)
    have H6 : Hid (CAt W6 ringA C g c d n b ∧ Rn w W6 r gp gkr ringA ∧ W6.cell? ⟨q, 0, none⟩ = some (.slice (some ⟨g, 0, none⟩) n c) ∧ W6.cell? ⟨q, 1, none⟩ = some (.slice b n d)) := ⟨hc.below b6, H4.out.below b46, d0, d1⟩
    clear hc b5 b6 b46 d0 d1 H4
    go_upto_region 5 with fail
    rw [← hW6]
    try rw [← hq]
    clear hW6 hq
    go_wp2_with fail
    refine (names_any a1 len1 cap1 t1 W6 (HG.out.below (Nat.le_refl _) H6.out.2.1.bel)).mono ?_
    rintro e w7 ⟨⟨v7, rfl, hrow7⟩, b7⟩
    obtain ⟨N0, hN0⟩ : ∃ N, N = namesL t1 := ⟨_, rfl⟩
    have HNs : Hid (∀ s ∈ N0, s.size ≤ 30) := by rw [hN0]; exact namesL_size t1
    have hN30 : N0.length ≤ 30 := by rw [hN0]; exact namesL_len t1
    rw [← hN0] at hrow7
    clear hN0
    obtain ⟨nm, hnm⟩ : ∃ n, n = N0.length := ⟨_, rfl⟩
    rw [← hnm] at hrow7 hN30
    obtain ⟨na, nc, rfl⟩ := own_len3 hrow7
    have H7 : Hid (CAt w7 ringA C g c d n b ∧ Rn w w7 r gp gkr ringA ∧ w7.cell? ⟨q, 0, none⟩ = some (.slice (some ⟨g, 0, none⟩) n c) ∧ w7.cell? ⟨q, 1, none⟩ = some (.slice b n d) ∧ StrIn w7 na nm N0) := ⟨H6.out.1.below b7, H6.out.2.1.below b7, cell_grown H6.out.2.2.1 b7, cell_grown H6.out.2.2.2 b7, strIn_own hrow7 hnm⟩
    clear hrow7 b7 H6 hnm
    obtain ⟨ab, ao, hab, hbl, hok, z0, z1, z2, z3⟩ := AcIn.at (HT.out.below (Nat.le_refl _) H7.out.2.1.bel) (i := 0) (by omega)
    subst hab
    generalize t0.getD 0 ac100 = t at hok z0 z1 z2 z3
    obtain ⟨kd, m, via, id⟩ := t
    have HO : Hid (Ac10.ok ⟨kd, m, via, id⟩) := hok
    clear hok
    simp only [Nat.zero_mul, Nat.add_zero] at z0 z1 z2 z3
    have hlI : (0 : Int) < (len0 : Int) := by omega
    have HJ : Hid _ := join_r r gp gkr ringA m id 0 w7 H7.out.2.1.ring HO.out.2.2.2 (by simp [i64])
    go_wp2_with fail
    refine Calls.mono HJ.out ?_
    clear HJ
    rintro e w8 ⟨rfl, h8, k8⟩
    have H8 : Hid (Rn w w8 r gp gkr (ringA.join m id 0)) := H7.out.2.1.step h8 (H7.out.2.1.inv.join m id 0 HO.out.2.2.2) k8
    have HK8 : Hid (Kp w7 w8 gp gkr) := k8
    clear h8 k8 z0 z1 z2 z3
    by_cases hj : ringA.joinC m id 0 = 0
    · have E1 : Hid (errV (ringA.joinC m id 0) = .nilIface) := errV_nil hj
      rw [E1.out]
      have HJC : Hid (ringA.joinC m id 0 = 0) := hj
      clear hj E1
      obtain ⟨mp, hmp, _⟩ := H7.out.2.1.ring.places
      obtain ⟨mk, hmk, _⟩ := H7.out.2.1.ring.known
      have hqp : q ≠ gp := fun e => by have := H7.out.2.2.1; rw [e, hmp.no_cell] at this; cases this
      have hqk : q ≠ gkr := fun e => by have := H7.out.2.2.1; rw [e, hmk.no_cell] at this; cases this
      obtain ⟨R2, hR2⟩ : ∃ R2, R2 = ringA.join m id 0 := ⟨_, rfl⟩
      have H9 : Hid (CAt w8 ringA C g c d n b ∧ Rn w w8 r gp gkr R2 ∧ w8.cell? ⟨q, 0, none⟩ = some (.slice (some ⟨g, 0, none⟩) n c) ∧ w8.cell? ⟨q, 1, none⟩ = some (.slice b n d) ∧ StrIn w8 na nm N0) := ⟨cat_kp H7.out.1 HK8.out hmp hmk, by rw [hR2]; exact H8.out, HK8.out.cell H7.out.2.2.1 hqp hqk, HK8.out.cell H7.out.2.2.2.1 hqp hqk, strIn_kp H7.out.2.2.2.2 HK8.out hmp hmk⟩
      have HR2 : Hid (R2 = ringA.join m id 0) := hR2
      clear hmp hmk hqp hqk hR2 H7 H8 HK8
      go_wp2_with fail
      refine (of_c r gp gkr R2 _ H9.out.2.1.ring H9.out.2.1.inv).mono ?_
      rintro e w9 ⟨C2, g2, b2, c2, d2, n2, rfl, hc, hnl, b9⟩
      clear hnl
      obtain ⟨W10, hW10⟩ : ∃ W10, W10 = w9.alloc (.cells #[.slice (some ⟨g2, 0, none⟩) n2 c2, .slice b2 n2 d2] 50) := ⟨_, rfl⟩
      obtain ⟨q2, hq2⟩ : ∃ q, q = w9.heap.size := ⟨_, rfl⟩
      have b10 : Below w9.heap.size w9 W10 := by rw [hW10]; exact below_one _ _
      have b810 : Below w8.heap.size w8 W10 := b9.trans (b10.mono b9.size)
      have e0 : W10.cell? ⟨q2, 0, none⟩ = some (.slice (some ⟨g2, 0, none⟩) n2 c2) := by rw [hW10, hq2]; exact World.cell?_alloc_new ..
      have e1 : W10.cell? ⟨q2, 1, none⟩ = some (.slice b2 n2 d2) := by rw [hW10, hq2]; simp
      have d0 := cell_grown H9.out.2.2.1 b810
      have d1 := cell_grown H9.out.2.2.2.1 b810
      have H10 : Hid (CAt W10 ringA C g c d n b ∧ Rn w W10 r gp gkr R2 ∧ CAt W10 R2 C2 g2 c2 d2 n2 b2 ∧ StrIn W10 na nm N0 ∧ W10.cell? ⟨q2, 0, none⟩ = some (.slice (some ⟨g2, 0, none⟩) n2 c2) ∧ W10.cell? ⟨q2, 1, none⟩ = some (.slice b2 n2 d2)) := ⟨H9.out.1.below b810, H9.out.2.1.below b810, hc.below b10, strin_below H9.out.2.2.2.2 b810, e0, e1⟩
      clear hc b9 b10 b810
      have dl := cell_block d0
      have el := cell_block e0
      go_upto_region 10 with fail
      rw [← hW10]
      try rw [← hq2]
      clear hW10 hq2 H9
      obtain ⟨j1, j2, j3, j4⟩ := cir_sub ringA_inv HJC.out H10.out.1.cir (by rw [← HR2.out]; exact H10.out.2.2.1.cir)
      have HPL : Hid _ := plan_c ringA R2 C C2 g c d n g2 c2 d2 n2 b b2 na nm nc N0 W10 H10.out.1 H10.out.2.2.1 H10.out.2.2.2.1 (by omega) (fun s hs => by have := HNs.out s hs; omega) (fun s hs k hk hkn => j2 _ (by rw [List.getD_eq_getElem?_getD, List.getElem?_eq_getElem (show k < C.length by rw [H10.out.1.len]; exact hkn)]; simp))
      clear j1 j2 j3 j4
      go_wp2_with fail
      refine Calls.mono HPL.out ?_
      clear HPL d0 d1 dl e0 e1 el
      rintro e w11 ⟨⟨v11, F, rfl, hF, hrow⟩, b11⟩
      obtain ⟨N, hN⟩ : ∃ N, N = onceS (sortS N0) := ⟨_, rfl⟩
      have hNr : N.Pairwise (fun a b => ltS a b = true) := by rw [hN]; exact onceS_rise N0
      rw [← hN] at hF hrow
      have hfew := catM_rise (F := F) (n := m) (P := fun o => o ≠ m ∧ R2.lives o = true) hNr (fun j hj => by
        have h := hF j hj
        rw [HR2.out, ← H10.out.1.len, ← H10.out.2.2.1.len] at h
        rcases mvis_few ringA_inv HJC.out H10.out.1.cir (by rw [← HR2.out]; exact H10.out.2.2.1.cir) h with e | ⟨o, e, h1, h2⟩
        · exact .inl e
        · exact .inr ⟨o, e, h1, by rw [HR2.out]; exact h2⟩) N.length (Nat.le_refl _)
      obtain ⟨M, hM⟩ : ∃ M, M = catM F N.length := ⟨_, rfl⟩
      rw [← hM] at hrow hfew
      obtain ⟨nM, hnM⟩ : ∃ k, k = M.length := ⟨_, rfl⟩
      rw [← hnM] at hrow
      have hMb : nM ≤ 9223372036854775807 := by
        rcases hrow.2 with ⟨_, e⟩ | ⟨g9, cap, cur, hv, _, _, h1, h2, _⟩
        · omega
        · unfold maxLen at h2; omega
      obtain ⟨pa, pc, rfl⟩ := own_len3 hrow
      have HM : Hid (M.length = nM ∧ M.Pairwise (fun a b => ltS a.1 b.1 = true) ∧ ∀ x ∈ M, x.2.2 = m ∧ x.2.1 ≠ m ∧ R2.lives x.2.1 = true) := ⟨hnM.symm, hfew.1, fun x hx => by have := hfew.2.1 x hx; exact ⟨this.1, this.2.1, this.2.2⟩⟩
      have H11 : Hid (Rn w w11 r gp gkr R2 ∧ CAt w11 R2 C2 g2 c2 d2 n2 b2 ∧ StrIn w11 na nm N0 ∧ w11.cell? ⟨q2, 0, none⟩ = some (.slice (some ⟨g2, 0, none⟩) n2 c2) ∧ w11.cell? ⟨q2, 1, none⟩ = some (.slice b2 n2 d2) ∧ w11.ownsRow W10.heap.size 69 3 (.slice pa nM pc) nM (M.flatMap encM)) := ⟨H10.out.2.1.below b11, H10.out.2.2.1.below b11, strin_below H10.out.2.2.2.1 b11, cell_grown H10.out.2.2.2.2.1 b11, cell_grown H10.out.2.2.2.2.2 b11, hrow⟩
      clear hF hN hNr hfew hM hnM hrow b11 H10 HJC
      go_wp2
      go_loopg [60] nM (fun kx sx wr => ∃ j : Nat, sx = .int .i64 j ∧ j ≤ nM ∧ kx = nM - j ∧ Hid (Below w11.heap.size w11 wr))
      case atStart => exact ⟨0, rfl, Nat.zero_le _, rfl, Below.refl _ _⟩
      case round =>
        obtain ⟨j, rfl, hj, rfl, HB⟩ := hrel
        by_cases hlt : j < nM
        · have hltI : (j : Int) < (nM : Int) := by omega
          have hrow := row_atJ H11.out.2.2.2.2.2 (fun z hz => HB.out.block z (World.ownsRow.lt H11.out.2.2.2.2.2 z hz).2)
          obtain ⟨ga, hga⟩ : ∃ ga, pa = some ⟨ga, 0, none⟩ := by
            rcases hrow.2 with ⟨e, _⟩ | ⟨g9, cap, cur, hv, _⟩
            · cases e; omega
            · cases hv; exact ⟨g9, rfl⟩
          subst hga
          obtain ⟨gl, u0, u1, u2⟩ := mv_cells hrow HM.out.1 hlt
          obtain ⟨mv, hmv⟩ : ∃ mv, mv = M.getD j (ByteArray.empty, 0, 0) := ⟨_, rfl⟩
          rw [← hmv] at u0 u1 u2
          have hin : mv ∈ M := by rw [hmv, List.getD_eq_getElem?_getD, List.getElem?_eq_getElem (show j < M.length by rw [HM.out.1]; exact hlt)]; simp
          obtain ⟨f1, f2, f3⟩ := HM.out.2.2 mv hin
          have HMV : Hid (mv = M.getD j (ByteArray.empty, 0, 0)) := hmv
          obtain ⟨ms, mo, mt⟩ := mv
          simp only at u0 u1 u2 f1 f2 f3
          subst f1
          obtain ⟨W12, hW12⟩ : ∃ W, W = wr.alloc (.cells #[.string ms, .int .i64 mo, .int .i64 mt] 69) := ⟨_, rfl⟩
          obtain ⟨q3, hq3⟩ : ∃ q, q = wr.heap.size := ⟨_, rfl⟩
          have b12 : Below wr.heap.size wr W12 := by rw [hW12]; exact below_one _ _
          have y0 : W12.cell? ⟨q3, 0, none⟩ = some (.string ms) := by rw [hW12, hq3]; exact World.cell?_alloc_new ..
          have y1 : W12.cell? ⟨q3, 1, none⟩ = some (.int .i64 mo) := by rw [hW12, hq3]; simp
          have y2 : W12.cell? ⟨q3, 2, none⟩ = some (.int .i64 mt) := by rw [hW12, hq3]; simp
          have yl := cell_block y0
          have HB12 : Hid (Below w11.heap.size w11 W12) := HB.out.trans (b12.mono HB.out.size)
          have HRW : Hid (wr.ownsRow W10.heap.size 69 3 (.slice (some ⟨ga, 0, none⟩) nM pc) nM (M.flatMap encM)) := hrow
          have hf2 : (mo == mt) = false := by simpa using f2
          have HLV : Hid (R2.lives mo = true) := f3
          clear hrow hin hmv f2 f3 b12
          go_upto_region 14 with fail
          rw [← hW12]
          try rw [← hq3]
          clear hW12 hq3 u0 u1 u2 gl
          go_wp2_with fail
          refine (lives_r r gp gkr R2 mo _ (H11.out.1.ring.below HB12.out)).mono ?_
          rintro e w13 ⟨rfl, b13⟩
          rw [HLV.out]
          have HB13 : Hid (Below w11.heap.size w11 w13) := HB12.out.trans (b13.mono HB12.out.size)
          replace y0 := cell_grown y0 b13
          have yl := cell_block y0
          clear b13 y1 y2 hf2
          go_upto_region 16 with fail
          go_cut [94] (fun v wx => v = .bool false ∧ Hid (Below w11.heap.size w11 wx))
          case first =>
            cases j with
            | zero =>
              have hz0 : decide ((0 : Int) < ((0 : Nat) : Int)) = false := by decide
              go_quiet (fail)
              go_wp2
              go_meet
              exact ⟨by first | rfl | simp, HB13.out.trans ⟨rfl, rfl, rfl, Nat.le_refl _, fun _ _ => rfl⟩⟩
            | succ j =>
              have hrow := row_atJ H11.out.2.2.2.2.2 (fun z hz => HB13.out.block z (World.ownsRow.lt H11.out.2.2.2.2.2 z hz).2)
              obtain ⟨gl, u0, _, _⟩ := mv_cells hrow HM.out.1 (j := j) (by omega)
              have hbl := rise_at HM.out.2.1 (j := j) (by rw [HM.out.1]; exact hlt)
              rw [← HMV.out] at hbl
              obtain ⟨pm, hpm⟩ : ∃ pm, pm = (M.getD j (ByteArray.empty, 0, 0)).1 := ⟨_, rfl⟩
              rw [← hpm] at u0 hbl
              clear hpm hrow
              have hz0 : decide ((0 : Int) < ((j + 1 : Nat) : Int)) = true := decide_eq_true (by omega)
              have hz1 : ((j + 1 : Nat) : Int) - 1 = (j : Int) := by omega
              have hjI : (j : Int) < (nM : Int) := by omega
              go_quiet (fail)
              go_wp2
              go_meet
              exact ⟨by first | rfl | simp, HB13.out.trans ⟨rfl, rfl, rfl, Nat.le_refl _, fun _ _ => rfl⟩⟩
          case rest =>
            rename World => w14
            obtain ⟨rfl, HB14⟩ := hcut
            clear y0 yl HB13 HB12 HB HRW
            go_wp2
            go_roundg (nM - (j + 1))
            case measure => omega
            case rel => exact ⟨j + 1, by go_num, by omega, rfl, HB14⟩
        · obtain rfl : j = nM := by omega
          obtain ⟨w12, hw12⟩ : ∃ w12, w12 = wr := ⟨_, rfl⟩
          rw [← hw12] at HB ⊢
          clear hw12
          have HBw : Hid (Below w11.heap.size w11 w12) := HB
          have H12 : Hid (Rn w w12 r gp gkr R2 ∧ CAt w12 R2 C2 g2 c2 d2 n2 b2 ∧ StrIn w12 na nm N0 ∧ w12.cell? ⟨q2, 0, none⟩ = some (.slice (some ⟨g2, 0, none⟩) n2 c2) ∧ w12.cell? ⟨q2, 1, none⟩ = some (.slice b2 n2 d2)) := ⟨H11.out.1.below HBw.out, H11.out.2.1.below HBw.out, strin_below H11.out.2.2.1 HBw.out, cell_grown H11.out.2.2.2.1 HBw.out, cell_grown H11.out.2.2.2.2.1 HBw.out⟩
          clear HB HBw H11 HM
          go_wp2
          go_loopg [98] nm (fun kx sx wr => ∃ j : Nat, sx = .int .i64 j ∧ j ≤ nm ∧ kx = nm - j ∧ Hid (Below w12.heap.size w12 wr))
          case atStart => exact ⟨0, rfl, Nat.zero_le _, rfl, Below.refl _ _⟩
          case round =>
            obtain ⟨i, rfl, hi, rfl, HB⟩ := hrel
            by_cases hlt : i < nm
            · have hltI : (i : Int) < (nm : Int) := by omega
              have hs := strin_below H12.out.2.2.1 HB.out
              obtain ⟨tb, tof, hta, htl, htc⟩ := hs.2.resolve_left (by omega)
              subst hta
              have htj := htc i hlt
              obtain ⟨s, hse⟩ : ∃ s, s = N0.getD i ByteArray.empty := ⟨_, rfl⟩
              rw [← hse] at htj
              have hs30 : s.size ≤ 30 := HNs.out s (by rw [hse, List.getD_eq_getElem?_getD, List.getElem?_eq_getElem (show i < N0.length by rw [hs.1]; exact hlt)]; simp)
              have hcw := H12.out.2.1.below HB.out
              obtain ⟨ko, hko, hkn⟩ := hcw.own s
              have HKC : Hid _ := keepers_c hcw s hko hkn (by omega)
              have hk3 := keep3 hcw.nodup (k := ko) (by rw [hcw.len]; exact hkn) (by rw [hcw.len]; exact hcw.n4)
              have e0 := cell_grown H12.out.2.2.2.1 HB.out
              have e1 := cell_grown H12.out.2.2.2.2 HB.out
              have el := cell_block e0
              clear hs htc hse hcw hko hkn
              go_wp2_with fail
              refine Calls.mono HKC.out ?_
              clear HKC e0 e1 el htj htl
              rintro e w14 ⟨⟨ka, kc, rfl, hin⟩, b14⟩
              have HB14 : Hid (Below w12.heap.size w12 w14) := HB.out.trans (b14.mono HB.out.size)
              obtain ⟨mb, mo, hmb, hml, _, hc0⟩ := hin.one (v := Value.int .i64) (fun _ => rfl) (i := 0) (by omega)
              obtain ⟨mb1, mo1, hmb1, _, _, hc1⟩ := hin.one (v := Value.int .i64) (fun _ => rfl) (i := 1) (by omega)
              obtain ⟨mb2, mo2, hmb2, _, _, hc2⟩ := hin.one (v := Value.int .i64) (fun _ => rfl) (i := 2) (by omega)
              subst hmb
              simp at hmb1 hmb2
              obtain ⟨rfl, rfl⟩ := hmb1
              obtain ⟨rfl, rfl⟩ := hmb2
              rw [Nat.add_zero] at hc0
              generalize (keepL C2 ko).getD 0 0 = y0 at hc0 hk3
              generalize (keepL C2 ko).getD 1 0 = y1 at hc1 hk3
              generalize (keepL C2 ko).getD 2 0 = y2 at hc2 hk3
              have f1 : (y0 == y1) = false := by simpa using hk3.1
              have f2 : (y1 == y2) = false := by simpa using hk3.2.1
              have f3 : (y0 == y2) = false := by simpa using hk3.2.2
              clear hin b14 hk3
              go_upto_region 23 with fail
              go_cut [134] (fun v wx => v = .bool false ∧ Hid (Below w12.heap.size w12 wx))
              case first =>
                go_quiet (fail)
                go_wp2
                go_meet
                exact ⟨by first | rfl | simp, HB14.out.trans ⟨rfl, rfl, rfl, Nat.le_refl _, fun _ _ => rfl⟩⟩
              case rest =>
                rename World => w15
                obtain ⟨rfl, HB15⟩ := hcut
                clear hc0 hc1 hc2 hml f1 f2 f3 HB14 HB
                go_wp2
                go_roundg (nm - (i + 1))
                case measure => omega
                case rel => exact ⟨i + 1, by go_num, by omega, rfl, HB15⟩
            · obtain rfl : i = nm := by omega
              go_wp2_with fail
              refine (awake21_any _).mono ?_
              rintro e w16 ⟨rfl, b16⟩
              go_wp2
              go_ret
              have z1 := H12.out.1.bel.trans (HB.out.mono H12.out.1.bel.size)
              exact ⟨rfl, z1.trans (b16.mono z1.size)⟩
    · have hcd := errV_code hj
      rw [hcd]
      clear hcd hj
      go_wp2_with fail
      refine (awake21_any _).mono ?_
      rintro e w9 ⟨rfl, b9⟩
      go_wp2
      go_ret
      exact ⟨rfl, H8.out.bel.trans (b9.mono H8.out.bel.size)⟩

/-! ### The row's step -/
set_option maxRecDepth 100000 in
theorem lifted (os : Os) (started : os.Started) (H : Type) (enc : TypeId × Value → H) :
    ReturnsInHanded {} Tryz.checked os 5 .any (fun w args => (Rows.rdvFewSpec.pre enc Tryz.prog Tryz.f5 [] false w args ∧ laidMetH Tryz.prog Rows.rdvFewRow.laid w) ∧ sizedMet enc Tryz.prog Tryz.f5 (OpenSpec.ofChange Rows.rdvFewSpec) false w args) (Rows.rdvFewSpec.post enc Tryz.prog Tryz.f5 false true false false) := by
  refine returnsInHanded_of_change_and (C := Tryz.checked) (X := fun w _ => laidMetH Tryz.prog Rows.rdvFewRow.laid w) (fun _ _ _ hh h => h.of_heap hh) own started (by kernel_rfl) Tryz.func5
    (ChangeSpec.witness_at (enc := enc) (C := Tryz.checked) (os := os) (X := fun w _ => laidMetH Tryz.prog Rows.rdvFewRow.laid w) false ({ World.holding Tryz.prog os ⟨#[], #[], []⟩ with heap := (World.holding Tryz.prog os ⟨#[], #[], []⟩).heap.modify 0 fun | .cells _ t frozen => .cells #[.iface 259 (.agg #[.pointer (some ⟨1, 45, none⟩)])] t frozen | o => o }) #[.slice none 0 0, .slice none 0 0] 8 rfl (by kernel_rfl) (by kernel_rfl) (by kernel_rfl) (by kernel_rfl) (by kernel_rfl) (laidMetH_of_parts (laidMet_nil _ _) (by kernel_rfl))) ?_
  intro W base args ds gs before hval0 hW _ _ hL _
  have hval : ∀ (j : Nat) t v, Tryz.f5.params[j]? = some t → args[j]? = some v → Value.okWide Tryz.prog W .any base t v := hval0
  have hW' := hW
  obtain ⟨p, q, hA0, hV, rfl, hfz, hnd⟩ := hW
  have hA : DataW.TrodAll enc Tryz.prog W 0 (fun _ => true) true Tryz.f5.params.toList args.toList ds p := hA0
  rw [Tryz.params5] at hA hval
  obtain ⟨v0, vs0, d0, ds0, p0, q0, hargs, rfl, rfl, h0, r0⟩ := trodAll_cons hA
  obtain ⟨v1, vs1, d1, ds1, p1, q1, rfl, rfl, rfl, h1, r1⟩ := trodAll_cons r0
  obtain ⟨rfl, rfl, rfl⟩ := trodAll_nil r1
  obtain rfl : args = #[v0, v1] := by cases args; simp_all
  obtain ⟨rfl, rfl⟩ := trodVars_none hV
  obtain ⟨a0, len0, cap0, rfl⟩ := okWide_slice Tryz.underlying23 (hval 0 23 v0 rfl rfl)
  have k0 := h0
  have lt0 : ∀ x ∈ p0, x.block < W.heap.size := by obtain ⟨m, hm⟩ := k0; exact DataW.trod_lt m _ _ _ hm
  obtain ⟨t0, w0⟩ : ∃ ts, InRow 4 Ac10.cells Ac10.ok ac100 W a0 len0 ts := by
    obtain ⟨fuel, hf⟩ := h0
    exact inrow_of 4 Ac10.cells Ac10.ok ac100 23 61 Tryz.underlying23 cellsAc10 (by omega) lenAc10 (fun n cs x => ac10_of n cs x) hf
  obtain ⟨a1, len1, cap1, rfl⟩ := okWide_slice Tryz.underlying55 (hval 1 55 v1 rfl rfl)
  have k1 := h1
  have lt1 : ∀ x ∈ p1, x.block < W.heap.size := by obtain ⟨m, hm⟩ := k1; exact DataW.trod_lt m _ _ _ hm
  obtain ⟨t1, w1⟩ : ∃ ts, InRow 1 encS okS ByteArray.empty W a1 len1 ts := by
    obtain ⟨fuel, hf⟩ := h1
    exact inrow_of 1 encS okS ByteArray.empty 55 9 Tryz.underlying55 cellsS1 (by omega) lenS (fun n cs x => str_of n cs x) hf
  clear hA0 hval0
  have hE := handle_of_laid hL
  refine (walk a0 len0 cap0 t0 a1 len1 cap1 t1 W hE w0 w1).mono fun e W' ⟨he, bel⟩ => ?_
  subst he
  exact ⟨_, rfl, _, _, _, [], _, [], hW', trodAll_mk1 (shut_bool Tryz.underlying4 _), (trodAll_cons_mk (Below.trod laidOut (by kernel_rfl) (of_decide_eq_true (by kernel_rfl)) k0 bel lt0) (trodAll_cons_mk (Below.trod laidOut (by kernel_rfl) (of_decide_eq_true (by kernel_rfl)) k1 bel lt1) trodAll_mk0)), rfl, bel.frame _, fun h => by cases h⟩

theorem over : Rows.rdvFewRow.holds Tryz.pinned (OpenSpec.ofChange Rows.rdvFewSpec) :=
  OpenClaim.holds_of_wide 5 Tryz.f5 rfl rfl rfl rfl rfl rfl rfl ⟨rfl, rfl, rfl, rfl, rfl⟩ rfl rfl rfl rfl rfl (by kernel_rfl) Tryz.func5 (by kernel_rfl)
    (of_decide_eq_true (by kernel_rfl)) (by unfold Func.isWrapper; first | (rw [if_pos (by decide +kernel)]; kernel_rfl) | (rw [if_neg (by decide +kernel)]; exact ⟨rfl, rfl⟩))
    (fun os started H enc _ => lifted os started H enc)

theorem card : Rows.RdvFewCardSaid :=
  Claim7.holds_tied_plain_at .later [] [.handle] true (true, "a510ebdd746ea4e7bc88118e1607cd1f97c2f7db3547122bd42d2837063a2fe1") true
    over (fun _ h => by cases h) (by kernel_rfl) (fun _ h => by cases h) rdvFew_row_tie rfl ⟨rfl, rfl⟩ (by kernel_rfl) rfl
    (fun f fn hf hfn => by
      obtain rfl : f = 5 := Option.some.inj ((show Tryz.prog.funcNamed "wigwag/wigwaglaw21.RdvFew" = some 5 by kernel_rfl).symm.trans hf) |>.symm
      obtain rfl : fn = Tryz.f5 := (Option.some.inj (Tryz.func5.symm.trans hfn)).symm
      exact ⟨by kernel_rfl, fun j t ht => by
        rw [Tryz.params5] at ht
        have hall : ∀ t ∈ ([23, 55] : List TypeId), Tryz.prog.wantsStandIn t = false := by
          intro t ht
          simp only [List.mem_cons, List.not_mem_nil, or_false] at ht
          rcases ht with rfl | rfl <;> kernel_rfl
        exact hall t (by simpa using List.mem_of_getElem? (l := ([23, 55] : List TypeId)) (i := j) (by simpa using ht))⟩)
    (by kernel_rfl)

end Go.Proofs.YtmajlldfiiokoaaGreatDoor.rdvFew

namespace Go.Proofs.YtmajlldfiiokoaaGreatDoor
/-- Proved: for every list of calls and every list of names: when one more comes to the base members the plan's moves all go to it, from one that lives, at most one a group, the groups rising, and every group has three keepers, all different; errors.errorType being laid as the program's text lays it (the card's tie, over the pruned copy). -/
theorem rdvFew_holds : Rows.RdvFewCardSaid := rdvFew.card
#print axioms rdvFew_holds
end Go.Proofs.YtmajlldfiiokoaaGreatDoor
