/- Proved: for every name, all members and every cut (names of more than 60 bytes, more than 12 members and cuts that are none apart): of base members the tree of all has each node of the tree of the first, as deep, and each that tells it; where somebody doesn't live that is told.
  The frame is the guide's own shell (proof-skeleton.mjs) at this function; the walk and all ahead of it are mine. -/
import Derived.Test.YtkkkldglceiiiaaRows
import Derived.Test.YtkkkldglceiiiaaJoinChStay
import Derived.Test.YtkkkldglceiiiaaChAwake
import Derived.Deep.RegionWith
import Derived.Deep.CutBlock
import Derived.Deep.DeepCutAuto
import Derived.Deep.LoopGhost
import Derived.Deep.RegionHeld3
import Derived.WalkKit
import Derived.WalkLawsBesides
import Derived.ProofKit
import Derived.OpenShut
import Derived.ShutString
import Derived.ChangeOld
import Derived.Below
namespace Go.Proofs.Ytkkkldglceiiiaa.treeMore
open Go.ChangeShapes Go.WideShapes Go.ChangeAt Go.RowKit
open Go.ChangeMaps (open_string shut_string)
set_option linter.unusedVariables false

theorem own : ownKnob Try.prog.godebug = none := by kernel_rfl
theorem laidOut : laidOutB Try.prog = true := by kernel_rfl


/-! ### STEP 1: the walk -/
set_option maxRecDepth 100000 in
set_option maxHeartbeats 20000000 in
theorem walk (a0 : ByteArray) (a1 : Option Addr) (len1 cap1 : Nat) (t1 : List Int) (a2 : Int) (w : World) (w0 : a0.size ≤ maxLen) (w1 : InRow 1 encI i64 0 w a1 len1 t1) (c1 : len1 ≤ cap1) (w2 : (Lit.int .i64 a2).wf = true) :
    Calls Try.prog 3 #[.string a0, .slice a1 len1 cap1, .int .i64 a2] w fun e w' => e = .returned (.bool true) ∧ Below w.heap.size w w' := by
  have HM : Hid (InIn w a1 len1 t1 ∧ len1 ≤ cap1 ∧ t1.length = len1) := ⟨w1, c1, w1.1⟩
  have z1 := w1.2.1
  have z0 := w0
  have z2 := bounds_i64 w2
  have HZ : Hid (i64 a2) := z2
  unfold maxLen at z0
  clear w0 w1 w2
  go_enter Try.func3, Try.ntmps3
  go_wp2_with fail
  refine (base_r w).mono ?_
  rintro e w1 ⟨rfl, h1, b1⟩
  go_wp2_with fail
  refine (new_base _ _ _ h1).mono ?_
  rintro e w2 ⟨r, gp, gk, rfl, hr, l1, l2, l3, b2⟩
  have H2 : Hid (Rn w w2 r gp gk ringA) := ⟨hr, ringA_inv, b1.trans (b2.mono b1.size), Nat.le_trans b1.size l2, Nat.le_trans b1.size l3⟩
  clear h1 b1 hr l1 l2 l3 b2
  by_cases hbig : 60 < a0.size ∨ 12 < len1 ∨ a2 < 0 ∨ (len1 : Int) < a2
  · go_upto_region 2 with fail
    go_cut [52] (fun v wx => v = .bool true ∧ wx = w2)
    case first =>
      by_cases h0 : 60 < a0.size
      · go_wp2
        go_meet
        exact ⟨rfl, rfl⟩
      · by_cases h1 : 12 < len1
        · go_wp2
          go_meet
          exact ⟨rfl, rfl⟩
        · by_cases h2 : a2 < 0
          · go_wp2
            go_meet
            exact ⟨rfl, rfl⟩
          · have h3 : (len1 : Int) < a2 := by omega
            go_wp2
            go_meet
            exact ⟨rfl, rfl⟩
    case rest =>
      rename World => W3
      obtain ⟨rfl, hw3⟩ := hcut
      subst W3
      clear hbig
      go_wp2_with (go_at_call 7; refine (awake20_any _).mono ?_; rintro e w3 ⟨rfl, b3⟩)
      go_ret
      exact ⟨rfl, (H2.out.below b3).bel⟩
  · have hb0 : a0.size ≤ 60 := by omega
    have hb1 : len1 ≤ 12 := by omega
    obtain ⟨cut, rfl⟩ : ∃ k : Nat, a2 = k := ⟨a2.toNat, by omega⟩
    have hcutI : (0 : Int) ≤ (cut : Int) ∧ (cut : Int) ≤ (len1 : Int) := by omega
    have hcl : cut ≤ len1 := by omega
    have HCL : Hid (cut ≤ len1 ∧ len1 ≤ cap1) := ⟨hcl, HM.out.2.1⟩
    clear hbig
    have hc0 := hcutI.1
    have hc1 := hcutI.2
    have hcc : len1 ≤ cap1 := HM.out.2.1
    go_wp2_with fail
    refine (fnew_r w w2 r gp gk ringA H2.out).mono ?_
    rintro e w3 ⟨f, gm, rfl, h3⟩
    have H3 : Hid (Rt w w3 r gp gk f gm ringA (fun _ => [])) := h3
    clear h3 H2
    obtain ⟨C, hC⟩ := cir_ex ringA_inv
    obtain ⟨ro, hcv, _⟩ := conv_ring ringA_rgt hC (fun _ => []) (gkey_plc a0)
    have HCV : Hid (Conv (nxR ringA (fun _ => []) (gkeyT a0)) (fun n => ringA.lives n = true) (ringA.nextTo (fun _ => []) (gkeyT a0)) ro) := hcv
    have HOF : Hid (∀ W, Below w3.heap.size w3 W → ∀ n c, n ≤ 12 → ∀ ms, InIn W a1 n ms → Calls Try.prog 10 #[.iface 31 (.pointer (some ⟨f, 0, none⟩)), .string a0, .slice a1 n c] W fun e w' => OfR e w' (treeOf (nxR ringA (fun _ => []) (gkeyT a0)) ms).1 (treeOf (nxR ringA (fun _ => []) (gkeyT a0)) ms).2 ∧ Below W.heap.size W w') := fun W hW n c hn ms hms =>
      tree_of W _ _ _ _ a0 a1 n c ms (by omega) hms (wk_ring W r gp gk f gm ringA (fun _ => []) (gkeyT a0) (H3.out.rn.ring.below hW) (H3.out.fg.below hW) ringA_inv) (nxR_neg ringA_inv _ _) (by omega)
    have HFW : Hid (∀ t, TrOk (nxR ringA (fun _ => []) (gkeyT a0)) t → TrFew ringA t) := fun t ht => few_ring ringA_inv ht
    have HDD : Hid (∀ n, ¬ ringA.lives n = true → nxR ringA (fun _ => []) (gkeyT a0) n = none) := fun n hn => nxR_dead hn
    clear hC hcv
    generalize (nxR ringA (fun _ => []) (gkeyT a0)) = nx at HCV HOF HFW HDD
    go_wp2
    go_loopg [66] len1 (fun kx s wr => ∃ i : Nat, s = .int .i64 i ∧ i ≤ len1 ∧ kx = len1 - i ∧ Hid (Below w3.heap.size w3 wr ∧ ∀ j, j < i → ringA.lives (t1.getD j 0) = true))
    case atStart => exact ⟨0, rfl, Nat.zero_le _, rfl, ⟨Below.refl _ _, fun j hj => absurd hj (Nat.not_lt_zero _)⟩⟩
    case round =>
      obtain ⟨i, rfl, hi, rfl, HB⟩ := hrel
      by_cases hlt : i < len1
      · obtain ⟨mb, mo, hmb, hml, _, hmc⟩ := (HM.out.1.below (Nat.le_refl _) (H3.out.rn.bel.trans (HB.out.1.mono H3.out.rn.bel.size))).one (v := Value.int .i64) (fun _ => rfl) (i := i) hlt
        subst hmb
        obtain ⟨y, hy⟩ : ∃ y, y = t1.getD i 0 := ⟨_, rfl⟩
        rw [← hy] at hmc
        have HY : Hid (y = t1.getD i 0) := hy
        clear hy
        go_wp2_with fail
        refine (lives_r r gp gk ringA y _ (H3.out.rn.ring.below HB.out.1)).mono ?_
        rintro e w4 ⟨rfl, b4⟩
        have H4 : Hid (Below w3.heap.size w3 w4) := HB.out.1.trans (b4.mono HB.out.1.size)
        clear b4 hmc hml
        cases hlv : ringA.lives y with
        | true =>
          have HL : Hid (ringA.lives y = true) := hlv
          clear hlv
          go_wp2
          go_roundg (len1 - (i + 1))
          case measure => omega
          case rel => exact ⟨i + 1, by go_num, by omega, rfl, ⟨H4.out, fun j hj => by
              by_cases e : j = i
              · rw [e, ← HY.out]; exact HL.out
              · exact HB.out.2 j (by omega)⟩⟩
        | false =>
          have HDE : Hid ((treeOf nx t1).1 = 6) := HCV.out.tree_dead HDD.out t1 ⟨y, by
            rw [HY.out, List.getD_eq_getElem?_getD, List.getElem?_eq_getElem (by rw [HM.out.2.2]; exact hlt)]; simp, by rw [hlv]; simp⟩
          clear hlv
          go_wp2_with fail
          refine Calls.mono (HOF.out _ H4.out len1 cap1 hb1 t1 (HM.out.1.below (Nat.le_refl _) (H3.out.rn.bel.trans (H4.out.mono H3.out.rn.bel.size)))) ?_
          rintro e w5 ⟨h5, b5⟩
          have H5 : Hid (Below w3.heap.size w3 w5) := H4.out.trans (b5.mono H4.out.size)
          clear b5
          rcases h5 with ⟨_, rfl⟩ | ⟨h, _⟩
          · rw [HDE.out]
            go_wp2_with (first
              | (go_at_call 7; refine (awake20_any _).mono ?_; rintro e w6 ⟨rfl, b6⟩)
              | (go_at_call 11; refine (is_code 6 _).mono ?_; rintro e w' ⟨rfl, hw'⟩; subst w'))
            go_ret
            have hb := H3.out.rn.bel.trans (H5.out.mono H3.out.rn.bel.size)
            exact ⟨rfl, hb.trans (((below_one _ _).trans (b6.mono (by simp))).mono hb.size)⟩
          · exact absurd (HDE.out.symm.trans h) (by decide)
      · obtain hii : len1 = i := by omega
        subst hii
        have HLV : Hid (∀ m ∈ t1, ringA.lives m = true) := fun m hm => by
          obtain ⟨j, hj, e⟩ := List.mem_iff_getElem.1 hm
          have := HB.out.2 j (by rw [← HM.out.2.2]; exact hj)
          rw [List.getD_eq_getElem?_getD, List.getElem?_eq_getElem hj] at this
          rw [← e]; exact this
        obtain ⟨z1, T1⟩ := HCV.out.tree (t1.take cut) (fun m hm => HLV.out m (List.mem_of_mem_take hm))
        obtain ⟨z2, T2⟩ := HCV.out.tree t1 HLV.out
        have HOA : Hid (∀ W, Below w3.heap.size w3 W → Calls Try.prog 10 #[.iface 31 (.pointer (some ⟨f, 0, none⟩)), .string a0, .slice a1 cut cap1] W fun e w' => OfR e w' (treeOf nx (t1.take cut)).1 (treeOf nx (t1.take cut)).2 ∧ Below W.heap.size W w') := fun W hW =>
          HOF.out W hW cut cap1 (by omega) (t1.take cut) ((HM.out.1.below (Nat.le_refl _) (H3.out.rn.bel.trans (hW.mono H3.out.rn.bel.size))).take cut hcl)
        have HOB : Hid (∀ W, Below w3.heap.size w3 W → Calls Try.prog 10 #[.iface 31 (.pointer (some ⟨f, 0, none⟩)), .string a0, .slice a1 len1 cap1] W fun e w' => OfR e w' (treeOf nx t1).1 (treeOf nx t1).2 ∧ Below W.heap.size W w') := fun W hW =>
          HOF.out W hW len1 cap1 hb1 t1 (HM.out.1.below (Nat.le_refl _) (H3.out.rn.bel.trans (hW.mono H3.out.rn.bel.size)))
        have HTT : Hid ((treeOf nx (t1.take cut)).1 = 0 ∧ (treeOf nx t1).1 = 0 ∧ TrIs nx (ringA.nextTo (fun _ => []) (gkeyT a0)) ro (t1.take cut) (treeOf nx (t1.take cut)).2 ∧ TrIs nx (ringA.nextTo (fun _ => []) (gkeyT a0)) ro t1 (treeOf nx t1).2) := ⟨z1, z2, T1, T2⟩
        clear z1 z2 T1 T2 HOF
        generalize treeOf nx (t1.take cut) = tr1 at HTT HOA
        generalize treeOf nx t1 = tr2 at HTT HOB
        obtain ⟨e1, A⟩ := tr1
        obtain ⟨e2, Bt⟩ := tr2
        simp only at HTT HOA HOB
        obtain ⟨r1, u1⟩ := A
        obtain ⟨r2, u2⟩ := Bt
        have H4 : Hid (Below w3.heap.size w3 wr) := HB.out.1
        clear HB hlt
        go_wp2_with fail
        refine Calls.mono (HOA.out _ H4.out) ?_
        rintro e w5 ⟨h5, b5⟩
        rcases h5 with ⟨h, _⟩ | ⟨_, g1, rfl, hu1⟩
        · exact absurd HTT.out.1 h
        (try simp only at hu1)
        obtain ⟨W6, hW6⟩ : ∃ W, W = w5.alloc (.cells #[.int .i64 r1, .map (some g1)] 36) := ⟨_, rfl⟩
        obtain ⟨qa, hqa⟩ : ∃ q, q = w5.heap.size := ⟨_, rfl⟩
        have b6 : Below w5.heap.size w5 W6 := by rw [hW6]; exact below_one _ _
        have p0 : W6.cell? ⟨qa, 0, none⟩ = some (.int .i64 r1) := by rw [hW6, hqa]; exact World.cell?_alloc_new ..
        have p1 : W6.cell? ⟨qa, 1, none⟩ = some (.map (some g1)) := by rw [hW6, hqa]; simp
        have H6 : Hid (Below w3.heap.size w3 W6 ∧ UpAt W6 g1 u1) := ⟨(H4.out.trans (b5.mono H4.out.size)).trans (b6.mono (Nat.le_trans H4.out.size b5.size)), UpAt.below (m := u1) hu1 b6⟩
        clear b5 b6 hu1 H4
        go_upto_region 13 with fail
        rw [← hW6]
        try rw [← hqa]
        clear hW6 hqa
        go_wp2_with fail
        refine Calls.mono (HOB.out _ H6.out.1) ?_
        rintro e w7 ⟨h7, b7⟩
        rcases h7 with ⟨h, _⟩ | ⟨_, g2, rfl, hu2⟩
        · exact absurd HTT.out.2.1 h
        (try simp only at hu2)
        obtain ⟨W8, hW8⟩ : ∃ W, W = w7.alloc (.cells #[.int .i64 r2, .map (some g2)] 36) := ⟨_, rfl⟩
        obtain ⟨qb, hqb⟩ : ∃ q, q = w7.heap.size := ⟨_, rfl⟩
        have b8 : Below w7.heap.size w7 W8 := by rw [hW8]; exact below_one _ _
        have b68 : Below W6.heap.size W6 W8 := b7.trans (b8.mono b7.size)
        have q0 : W8.cell? ⟨qb, 0, none⟩ = some (.int .i64 r2) := by rw [hW8, hqb]; exact World.cell?_alloc_new ..
        have q1 : W8.cell? ⟨qb, 1, none⟩ = some (.map (some g2)) := by rw [hW8, hqb]; simp
        have ql := cell_block q0
        replace p0 := cell_grown p0 b68
        replace p1 := cell_grown p1 b68
        have pl := cell_block p0
        have H8 : Hid (Below w3.heap.size w3 W8 ∧ UpAt W8 g1 u1 ∧ UpAt W8 g2 u2) := ⟨H6.out.1.trans (b68.mono H6.out.1.size), H6.out.2.below b68, UpAt.below (m := u2) hu2 b8⟩
        clear b7 b8 b68 hu2 H6
        go_upto_region 14 with fail
        rw [← hW8]
        try rw [← hqb]
        clear hW8 hqb HOA HOB
        have HF1 : Hid (TrFew ringA ⟨r1, u1⟩) := HFW.out _ HTT.out.2.2.1.ok
        have HF2 : Hid (TrFew ringA ⟨r2, u2⟩) := HFW.out _ HTT.out.2.2.2.ok
        have HSB : Hid (∀ x, (⟨r1, u1⟩ : Tr).inT x → (⟨r2, u2⟩ : Tr).inT x) := fun x hx => by
          obtain ⟨m, hm, j, e⟩ := (HTT.out.2.2.1.nodes x).1 hx
          exact (HTT.out.2.2.2.nodes x).2 ⟨m, List.mem_of_mem_take hm, j, e⟩
        obtain ⟨L1, hp1, hm1⟩ := HTT.out.2.2.1.ok.nodes_ex
        obtain ⟨L2, hp2, hm2⟩ := HTT.out.2.2.2.ok.nodes_ex
        have HL1 : Hid (L1.Pairwise (· < ·) ∧ ∀ x, x ∈ L1 ↔ (⟨r1, u1⟩ : Tr).inT x) := ⟨hp1, hm1⟩
        have HL2 : Hid (L2.Pairwise (· < ·) ∧ ∀ x, x ∈ L2 ↔ (⟨r2, u2⟩ : Tr).inT x) := ⟨hp2, hm2⟩
        have HLE : Hid (L1.length ≤ L2.length) := rise_lenT hp1 (fun x hx => (hm2 x).2 (HSB.out x ((hm1 x).1 hx)))
        have HND1 : Hid (∀ W, Below W8.heap.size W8 W → Calls Try.prog 12 #[.agg #[.int .i64 r1, .map (some g1)]] W fun e w' => (∃ a c, e = .returned (.slice a L1.length c) ∧ InIn w' a L1.length L1) ∧ Below W.heap.size W w') := fun W hW =>
          nodes_c (t := ⟨r1, u1⟩) HL1.out.1 HL1.out.2 W (H8.out.2.1.below hW) HF1.out.len HF1.out.key HF1.out.rot HTT.out.2.2.1.ok
        have HND2 : Hid (∀ W, Below W8.heap.size W8 W → Calls Try.prog 12 #[.agg #[.int .i64 r2, .map (some g2)]] W fun e w' => (∃ a c, e = .returned (.slice a L2.length c) ∧ InIn w' a L2.length L2) ∧ Below W.heap.size W w') := fun W hW =>
          nodes_c (t := ⟨r2, u2⟩) HL2.out.1 HL2.out.2 W (H8.out.2.2.below hW) HF2.out.len HF2.out.key HF2.out.rot HTT.out.2.2.2.ok
        clear hp1 hm1 hp2 hm2
        go_wp2_with fail
        refine Calls.mono (HND1.out _ (Below.refl _ _)) ?_
        rintro e w9 ⟨⟨xa, xc, rfl, hin9⟩, b9⟩
        have H9 : Hid (Below W8.heap.size W8 w9 ∧ InIn w9 xa L1.length L1) := ⟨b9, hin9⟩
        have hn9 := hin9.2.1
        obtain ⟨n1, hn1⟩ : ∃ n, n = L1.length := ⟨_, rfl⟩
        rw [← hn1] at hn9 ⊢
        have HN1 : Hid (n1 = L1.length) := hn1
        clear hin9 b9 hn1
        go_wp2
        go_loopg [116] n1 (fun kx s wr => ∃ j : Nat, s = .int .i64 j ∧ j ≤ n1 ∧ kx = n1 - j ∧ Hid (Below w9.heap.size w9 wr))
        case atStart => exact ⟨0, rfl, Nat.zero_le _, rfl, (Below.refl _ _ : Below w9.heap.size w9 w9)⟩
        case round =>
          obtain ⟨j, rfl, hj, rfl, HB⟩ := hrel
          have B8 : Hid (Below W8.heap.size W8 wr) := H9.out.1.trans (HB.out.mono H9.out.1.size)
          have p00 := cell_grown p0 B8.out
          have p11 := cell_grown p1 B8.out
          have p22 := cell_block p00
          have q00 := cell_grown q0 B8.out
          have q11 := cell_grown q1 B8.out
          have q22 := cell_block q00
          by_cases hjl : j < n1
          · have hjlI : (j : Int) < (n1 : Int) := by omega
            obtain ⟨mb, mo, hmb, hml, _, hmc⟩ := (H9.out.2.below (Nat.le_refl _) HB.out).one (v := Value.int .i64) (fun _ => rfl) (i := j) (by have := HN1.out; omega)
            subst hmb
            have hmem : L1.getD j 0 ∈ L1 := by rw [List.getD_eq_getElem?_getD, List.getElem?_eq_getElem (by have := HN1.out; omega)]; simp
            obtain ⟨y, hy⟩ : ∃ y, y = L1.getD j 0 := ⟨_, rfl⟩
            rw [← hy] at hmc hmem
            have HIN : Hid ((⟨r1, u1⟩ : Tr).inT y ∧ (⟨r2, u2⟩ : Tr).inT y) := ⟨(HL1.out.2 y).1 hmem, HSB.out y ((HL1.out.2 y).1 hmem)⟩
            obtain ⟨dd, hdd⟩ : ∃ d, d = (⟨r1, u1⟩ : Tr).depth y := ⟨_, rfl⟩
            have HDS : Hid ((⟨r1, u1⟩ : Tr).depth y = dd ∧ (⟨r2, u2⟩ : Tr).depth y = dd) := ⟨hdd.symm, by rw [hdd]; exact (HTT.out.2.2.1.depth_same HCV.out HTT.out.2.2.2 HIN.out.1 HIN.out.2).symm⟩
            have hde : (dd != dd) = false := by simp
            clear hy hmem hdd
            have HD : Hid (∀ rr gg W, ((rr = r1 ∧ gg = g1) ∨ (rr = r2 ∧ gg = g2)) → Below wr.heap.size wr W → Calls Try.prog 13 #[.agg #[.int .i64 rr, .map (some gg)], .int .i64 y] W fun e w' => e = .returned (.int .i64 dd) ∧ Below wr.heap.size wr w') := fun rr gg W hs hW => by
              rcases hs with ⟨rfl, rfl⟩ | ⟨rfl, rfl⟩
              · exact (depth_any ⟨rr, u1⟩ gg y W ((H8.out.2.1.below B8.out).below hW) HF1.out.len).mono (fun e w' z => ⟨by rw [z.1, HDS.out.1], hW.trans (z.2.mono hW.size)⟩)
              · exact (depth_any ⟨rr, u2⟩ gg y W ((H8.out.2.2.below B8.out).below hW) HF2.out.len).mono (fun e w' z => ⟨by rw [z.1, HDS.out.2], hW.trans (z.2.mono hW.size)⟩)
            go_upto_region 19 with fail
            go_cut [126] (fun v wx => v = .bool false ∧ Hid (Below wr.heap.size wr wx))
            case first =>
              go_region_held3 (fun W' => W'.cell? ⟨qa, 0, none⟩ = some (.int .i64 r1) ∧ W'.cell? ⟨qa, 1, none⟩ = some (.map (some g1)) ∧ W'.cell? ⟨qb, 0, none⟩ = some (.int .i64 r2) ∧ W'.cell? ⟨qb, 1, none⟩ = some (.map (some g2)))
                (first
                  | go_keep
                  | assumption)
                (first
                  | (go_at_call 13; refine Calls.mono (HD.out _ _ _ ?_ ?_) ?_; (first | exact .inl ⟨rfl, rfl⟩ | exact .inr ⟨rfl, rfl⟩); first | exact BM.out | exact ⟨rfl, rfl, rfl, Nat.le_refl _, fun _ _ => rfl⟩
                     rintro e wM ⟨rfl, hM⟩
                     have BM : Hid (Below wr.heap.size wr wM) := hM
                     have zm0 := cell_grown p00 hM
                     have zm1 := cell_grown p11 hM
                     have zm2 := cell_grown q00 hM
                     have zm3 := cell_grown q11 hM
                     have zml := cell_block zm0
                     have zmk := cell_block zm2
                     clear hM))
              all_goals
                go_wp2
                go_meet
                exact ⟨rfl, BM⟩
            case rest =>
              rename World => W10
              obtain ⟨rfl, HC⟩ := hcut
              have B10 : Hid (Below W8.heap.size W8 W10) := B8.out.trans (HC.out.mono B8.out.size)
              have HB10 : Hid (Below w9.heap.size w9 W10) := HB.out.trans (HC.out.mono HB.out.size)
              clear p00 p11 p22 q00 q11 q22 hmc hml HC HD
              have p00 := cell_grown p0 B10.out
              have p11 := cell_grown p1 B10.out
              have p22 := cell_block p00
              obtain ⟨Lc, hpc, hmc⟩ := HTT.out.2.2.1.ok.childs_ex y
              have HLC : Hid (Lc.Pairwise (· < ·) ∧ ∀ x, x ∈ Lc ↔ lookI u1 x = some y) := ⟨hpc, hmc⟩
              obtain ⟨Ld, hpd, hmd⟩ := HTT.out.2.2.2.ok.childs_ex y
              have HLD : Hid (Ld.Pairwise (· < ·) ∧ ∀ x, x ∈ Ld ↔ lookI u2 x = some y) := ⟨hpd, hmd⟩
              clear hpc hmc hpd hmd
              go_wp2_with fail
              refine (childs_c (t := ⟨r1, u1⟩) HLC.out.1 HLC.out.2 _ (H8.out.2.1.below B10.out) HF1.out.len HF1.out.key).mono ?_
              rintro e w11 ⟨⟨ca, cc, rfl, hinc⟩, b11⟩
              have H11 : Hid (Below W8.heap.size W8 w11 ∧ InIn w11 ca Lc.length Lc ∧ Below w9.heap.size w9 w11) := ⟨B10.out.trans (b11.mono B10.out.size), hinc, HB10.out.trans (b11.mono HB10.out.size)⟩
              have hnc := hinc.2.1
              obtain ⟨nc, hncc⟩ : ∃ n, n = Lc.length := ⟨_, rfl⟩
              rw [← hncc] at hnc ⊢
              have HNC : Hid (nc = Lc.length) := hncc
              clear hinc b11 hncc p00 p11 p22 B10 HB10
              go_wp2
              go_loopg [131] nc (fun kx s wr => ∃ i : Nat, s = .int .i64 i ∧ i ≤ nc ∧ kx = nc - i ∧ Hid (Below w11.heap.size w11 wr))
              case atStart => exact ⟨0, rfl, Nat.zero_le _, rfl, (Below.refl _ _ : Below w11.heap.size w11 w11)⟩
              case round =>
                obtain ⟨i, rfl, hi, rfl, HI⟩ := hrel
                have B12 : Hid (Below W8.heap.size W8 wr) := H11.out.1.trans (HI.out.mono H11.out.1.size)
                have q00 := cell_grown q0 B12.out
                have q11 := cell_grown q1 B12.out
                have q22 := cell_block q00
                by_cases hil : i < nc
                · have hilI : (i : Int) < (nc : Int) := by omega
                  obtain ⟨mb2, mo2, hmb2, hml2, _, hmc2⟩ := (H11.out.2.1.below (Nat.le_refl _) HI.out).one (v := Value.int .i64) (fun _ => rfl) (i := i) (by have := HNC.out; omega)
                  subst hmb2
                  have hmem : Lc.getD i 0 ∈ Lc := by rw [List.getD_eq_getElem?_getD, List.getElem?_eq_getElem (by have := HNC.out; omega)]; simp
                  obtain ⟨z, hz⟩ : ∃ y, y = Lc.getD i 0 := ⟨_, rfl⟩
                  rw [← hz] at hmc2 hmem
                  have HZI : Hid (decide (z ∈ Ld) = true) := by
                    show _ = true
                    simp only [decide_eq_true_eq]
                    rw [HLD.out.2]
                    obtain ⟨k1, k2, k3⟩ := (HTT.out.2.2.1.up _ _).1 ((HLC.out.2 z).1 hmem)
                    exact (HTT.out.2.2.2.up _ _).2 ⟨HSB.out _ k1, k2, k3⟩
                  clear hz hmem
                  go_wp2_with fail
                  refine (childs_c (t := ⟨r2, u2⟩) HLD.out.1 HLD.out.2 _ (H8.out.2.2.below B12.out) HF2.out.len HF2.out.key).mono ?_
                  rintro e w13 ⟨⟨da, dc, rfl, hind⟩, b13⟩
                  have H13 : Hid (Below w11.heap.size w11 w13 ∧ InIn w13 da Ld.length Ld) := ⟨HI.out.trans (b13.mono HI.out.size), hind⟩
                  clear hind b13 hmc2 hml2 q00 q11 q22
                  go_wp2_with (go_at_call 15; refine (among_any _ _ _ Ld z _ H13.out.2).mono ?_; rintro e w' ⟨rfl, hw'⟩; subst w'; rw [HZI.out])
                  go_roundg (nc - (i + 1))
                  case measure => omega
                  case rel => exact ⟨i + 1, by go_num, by omega, rfl, H13.out.1⟩
                · obtain rfl : i = nc := by omega
                  clear q00 q11 q22
                  go_wp2
                  go_roundg (n1 - (j + 1))
                  case measure => omega
                  case rel => exact ⟨j + 1, by go_num, by omega, rfl, (H11.out.2.2.trans (HI.out.mono H11.out.2.2.size) : Below w9.heap.size w9 wr)⟩
          · clear p00 p11 p22 q00 q11 q22
            obtain ⟨WB, hWB⟩ : ∃ W, W = wr := ⟨_, rfl⟩
            rw [← hWB] at B8 ⊢
            clear hWB
            have HND1' : Hid (∀ W, Below WB.heap.size WB W → Calls Try.prog 12 #[.agg #[.int .i64 r1, .map (some g1)]] W fun e w' => (∃ a c, e = .returned (.slice a L1.length c) ∧ InIn w' a L1.length L1) ∧ Below W.heap.size W w') := fun W hW => HND1.out W (B8.out.trans (hW.mono B8.out.size))
            have HND2' : Hid (∀ W, Below WB.heap.size WB W → Calls Try.prog 12 #[.agg #[.int .i64 r2, .map (some g2)]] W fun e w' => (∃ a c, e = .returned (.slice a L2.length c) ∧ InIn w' a L2.length L2) ∧ Below W.heap.size W w') := fun W hW => HND2.out W (B8.out.trans (hW.mono B8.out.size))
            have HAW : Hid (∀ W, Below WB.heap.size WB W → Calls Try.prog 7 #[] W fun e w' => e = .returned (.bool true) ∧ Below W.heap.size W w') := fun W _ => awake20_any W
            replace p0 := cell_grown p0 B8.out
            replace p1 := cell_grown p1 B8.out
            replace pl := cell_block p0
            replace q0 := cell_grown q0 B8.out
            replace q1 := cell_grown q1 B8.out
            replace ql := cell_block q0
            have hle : (L1.length : Int) ≤ (L2.length : Int) := by have := HLE.out; omega
            clear HND1 HND2
            go_upto_region 28 with fail
            have HWB : Hid (Below w.heap.size w WB) := by
              have b := H3.out.rn.bel.trans (H8.out.1.mono H3.out.rn.bel.size)
              exact b.trans (B8.out.mono b.size)
            by_cases hc0' : cut = 0
            · have e0 : ((cut : Int) == 0) = true := by simp [hc0']
              clear hc0'
              go_cut [6] (fun v wx => v = .bool true ∧ Hid (Below WB.heap.size WB wx))
              case first =>
                refine wp_region_noPanic ?_
                refine wp_region_held_drew (S := fun W' => W'.cell? ⟨qa, 0, none⟩ = some (.int .i64 r1) ∧ W'.cell? ⟨qa, 1, none⟩ = some (.map (some g1)) ∧ W'.cell? ⟨qb, 0, none⟩ = some (.int .i64 r2) ∧ W'.cell? ⟨qb, 1, none⟩ = some (.map (some g2))) (by kernel_rfl) ⟨p0, p1, q0, q1⟩ (fun hHeld => ?_)
                refine wpAnyH_ready (rs := [0]) (by kernel_rfl) (by simp) ?_
                refine AllReadyH.cons (o := { dst := some 143, op := Op.call { callee := Callee.value (Operand.func 7), args := #[], argTypes := #[] }, type := 4, pos := "outright.go:44", after := #[], guard := none }) rfl (fun K hK => ?_) AllReadyH.nil
                go_simp
                refine Calls.mono (HAW.out _ ?_) ?_
                exact ⟨rfl, rfl, rfl, Nat.le_refl _, fun _ _ => rfl⟩
                rintro e wM ⟨rfl, hM⟩
                have hB' : Below WB.heap.size WB wM := ⟨hM.os, hM.tape, hM.output, hM.size, hM.block⟩
                have BM : Hid (Below WB.heap.size WB wM) := hB'
                have zm0 := cell_grown p0 hB'
                have zm1 := cell_grown p1 hB'
                have zm2 := cell_grown q0 hB'
                have zm3 := cell_grown q1 hB'
                have zml := cell_block zm0
                have zmk := cell_block zm2
                clear hM hB'
                (try go_wp2_with fail)
                refine hK.out _ _ ⟨zm0, zm1, zm2, zm3⟩ (fun hHeld => ?_)
                clear hK K
                try simp only [Act.put, List.setIfInBounds_toArray, List.set_cons_zero, List.set_cons_succ]
                refine wpAnyH_take (i := 1) (oi := { dst := some 144, op := Op.move (Operand.tmp 143), type := 4, pos := "outright.go:44", after := #[{ on := 0, ground := Ground.data }, { on := 0, ground := Ground.chain }], guard := none }) (v := ?v1_1) rfl ?a1_1 ?b1_1 ?c1_1 ?d1_1 (Or.inl ⟨?e1_1, ?y1_1⟩) ?f1_1 ?r1_1
                case a1_1 => kernel_rfl
                case b1_1 => kernel_rfl
                case c1_1 => kernel_rfl
                case d1_1 => exact fun _ _ _ h => h
                case e1_1 => rfl
                case f1_1 => assumption
                case y1_1 => (intro w hSw; (try dsimp only at hSw); go_simp; try with_reducible rfl)
                try simp only [Act.put, List.setIfInBounds_toArray, List.set_cons_zero, List.set_cons_succ]
                refine wpAnyH_take (i := 2) (oi := { dst := some 145, op := Op.move (Operand.tmp 2), type := 3, pos := "outright.go:44", after := #[{ on := 1, ground := Ground.guard }], guard := some (1, true) }) (v := ?v2_2) rfl ?a2_2 ?b2_2 ?c2_2 ?d2_2 (Or.inl ⟨?e2_2, ?y2_2⟩) ?f2_2 ?r2_2
                case a2_2 => kernel_rfl
                case b2_2 => kernel_rfl
                case c2_2 => kernel_rfl
                case d2_2 => exact fun _ _ _ h => h
                case e2_2 => rfl
                case f2_2 => assumption
                case y2_2 => (intro w hSw; (try dsimp only at hSw); go_simp; try with_reducible rfl)
                try simp only [Act.put, List.setIfInBounds_toArray, List.set_cons_zero, List.set_cons_succ]
                refine wpAnyH_take (i := 3) (oi := { dst := some 146, op := Op.binOp BinOp.eql 3 (Operand.tmp 145) (Operand.const (Value.int IntKind.i64 0)) 3, type := 4, pos := "outright.go:44", after := #[{ on := 2, ground := Ground.data }, { on := 1, ground := Ground.guard }], guard := some (1, true) }) (v := ?v3_3) rfl ?a3_3 ?b3_3 ?c3_3 ?d3_3 (Or.inl ⟨?e3_3, ?y3_3⟩) ?f3_3 ?r3_3
                case a3_3 => kernel_rfl
                case b3_3 => kernel_rfl
                case c3_3 => kernel_rfl
                case d3_3 => exact fun _ _ _ h => h
                case e3_3 => rfl
                case f3_3 => assumption
                case y3_3 => (intro w hSw; (try dsimp only at hSw); go_simp; try with_reducible rfl)
                try simp only [Act.put, List.setIfInBounds_toArray, List.set_cons_zero, List.set_cons_succ]
                refine wpAnyH_take (i := 4) (oi := { dst := some 147, op := Op.move (Operand.tmp 146), type := 4, pos := "outright.go:44", after := #[{ on := 3, ground := Ground.data }, { on := 1, ground := Ground.chain }, { on := 1, ground := Ground.guard }], guard := some (1, true) }) (v := ?v4_4) rfl ?a4_4 ?b4_4 ?c4_4 ?d4_4 (Or.inl ⟨?e4_4, ?y4_4⟩) ?f4_4 ?r4_4
                case a4_4 => kernel_rfl
                case b4_4 => kernel_rfl
                case c4_4 => kernel_rfl
                case d4_4 => exact fun _ _ _ h => h
                case e4_4 => rfl
                case f4_4 => assumption
                case y4_4 => (intro w hSw; (try dsimp only at hSw); go_simp; try with_reducible rfl)
                try simp only [Act.put, List.setIfInBounds_toArray, List.set_cons_zero, List.set_cons_succ]
                refine wpAnyH_take (i := 5) (oi := { dst := some 148, op := Op.fieldAddr 36 (Operand.tmp 14) 0, type := 0, pos := "outright.go:44", after := #[{ on := 4, ground := Ground.guard }], guard := some (4, false) }) (v := undef) rfl ?a5 ?b5 ?c5 ?d5 (Or.inr ⟨?e5, rfl⟩) ?f5 ?r5
                case a5 => kernel_rfl
                case b5 => kernel_rfl
                case c5 => kernel_rfl
                case d5 => exact fun _ _ _ h => h
                case e5 => rfl
                case f5 => assumption
                try simp only [Act.put, List.setIfInBounds_toArray, List.set_cons_zero, List.set_cons_succ]
                refine wpAnyH_take (i := 7) (oi := { dst := some 150, op := Op.fieldAddr 36 (Operand.tmp 16) 0, type := 0, pos := "outright.go:44", after := #[{ on := 4, ground := Ground.guard }], guard := some (4, false) }) (v := undef) rfl ?a7 ?b7 ?c7 ?d7 (Or.inr ⟨?e7, rfl⟩) ?f7 ?r7
                case a7 => kernel_rfl
                case b7 => kernel_rfl
                case c7 => kernel_rfl
                case d7 => exact fun _ _ _ h => h
                case e7 => rfl
                case f7 => assumption
                try simp only [Act.put, List.setIfInBounds_toArray, List.set_cons_zero, List.set_cons_succ]
                refine wpAnyH_take (i := 6) (oi := { dst := some 149, op := Op.load 3 (Operand.tmp 148), type := 3, pos := "outright.go:44", after := #[{ on := 5, ground := Ground.data }, { on := 4, ground := Ground.guard }], guard := some (4, false) }) (v := undef) rfl ?a6 ?b6 ?c6 ?d6 (Or.inr ⟨?e6, rfl⟩) ?f6 ?r6
                case a6 => kernel_rfl
                case b6 => kernel_rfl
                case c6 => kernel_rfl
                case d6 => exact fun _ _ _ h => h
                case e6 => rfl
                case f6 => assumption
                try simp only [Act.put, List.setIfInBounds_toArray, List.set_cons_zero, List.set_cons_succ]
                refine wpAnyH_take (i := 8) (oi := { dst := some 151, op := Op.load 3 (Operand.tmp 150), type := 3, pos := "outright.go:44", after := #[{ on := 7, ground := Ground.data }, { on := 4, ground := Ground.guard }], guard := some (4, false) }) (v := undef) rfl ?a8 ?b8 ?c8 ?d8 (Or.inr ⟨?e8, rfl⟩) ?f8 ?r8
                case a8 => kernel_rfl
                case b8 => kernel_rfl
                case c8 => kernel_rfl
                case d8 => exact fun _ _ _ h => h
                case e8 => rfl
                case f8 => assumption
                try simp only [Act.put, List.setIfInBounds_toArray, List.set_cons_zero, List.set_cons_succ]
                refine wpAnyH_take (i := 9) (oi := { dst := some 152, op := Op.binOp BinOp.eql 3 (Operand.tmp 149) (Operand.tmp 151) 3, type := 4, pos := "outright.go:44", after := #[{ on := 6, ground := Ground.data }, { on := 8, ground := Ground.data }, { on := 4, ground := Ground.guard }], guard := some (4, false) }) (v := undef) rfl ?a9 ?b9 ?c9 ?d9 (Or.inr ⟨?e9, rfl⟩) ?f9 ?r9
                case a9 => kernel_rfl
                case b9 => kernel_rfl
                case c9 => kernel_rfl
                case d9 => exact fun _ _ _ h => h
                case e9 => rfl
                case f9 => assumption
                try simp only [Act.put, List.setIfInBounds_toArray, List.set_cons_zero, List.set_cons_succ]
                refine wpAnyH_take (i := 10) (oi := { dst := some 153, op := Op.pick (Operand.tmp 147) (Operand.const (Value.bool true)) (Operand.tmp 152), type := 4, pos := "outright.go:44", after := #[{ on := 4, ground := Ground.data }, { on := 9, ground := Ground.data }, { on := 1, ground := Ground.guard }], guard := some (1, true) }) (v := ?v10_5) rfl ?a10_5 ?b10_5 ?c10_5 ?d10_5 (Or.inl ⟨?e10_5, ?y10_5⟩) ?f10_5 ?r10_5
                case a10_5 => kernel_rfl
                case b10_5 => kernel_rfl
                case c10_5 => kernel_rfl
                case d10_5 => exact fun _ _ _ h => h
                case e10_5 => rfl
                case f10_5 => assumption
                case y10_5 => (intro w hSw; (try dsimp only at hSw); go_simp; try with_reducible rfl)
                try simp only [Act.put, List.setIfInBounds_toArray, List.set_cons_zero, List.set_cons_succ]
                refine wpAnyH_take (i := 11) (oi := { dst := some 154, op := Op.pick (Operand.tmp 144) (Operand.tmp 153) (Operand.const (Value.bool false)), type := 4, pos := "outright.go:44", after := #[{ on := 1, ground := Ground.data }, { on := 10, ground := Ground.data }], guard := none }) (v := ?v11_6) rfl ?a11_6 ?b11_6 ?c11_6 ?d11_6 (Or.inl ⟨?e11_6, ?y11_6⟩) ?f11_6 ?r11_6
                case a11_6 => kernel_rfl
                case b11_6 => kernel_rfl
                case c11_6 => kernel_rfl
                case d11_6 => exact fun _ _ _ h => h
                case e11_6 => rfl
                case f11_6 => assumption
                case y11_6 => (intro w hSw; (try dsimp only at hSw); go_simp; try with_reducible rfl)
                try simp only [Act.put, List.setIfInBounds_toArray, List.set_cons_zero, List.set_cons_succ]
                refine wpAnyH_take (i := 12) (oi := { dst := some 155, op := Op.move (Operand.tmp 154), type := 4, pos := "outright.go:44", after := #[{ on := 11, ground := Ground.data }, { on := 4, ground := Ground.chain }], guard := none }) (v := ?v12_7) rfl ?a12_7 ?b12_7 ?c12_7 ?d12_7 (Or.inl ⟨?e12_7, ?y12_7⟩) ?f12_7 ?r12_7
                case a12_7 => kernel_rfl
                case b12_7 => kernel_rfl
                case c12_7 => kernel_rfl
                case d12_7 => exact fun _ _ _ h => h
                case e12_7 => rfl
                case f12_7 => assumption
                case y12_7 => (intro w hSw; (try dsimp only at hSw); go_simp; try with_reducible rfl)
                try simp only [Act.put, List.setIfInBounds_toArray, List.set_cons_zero, List.set_cons_succ]
                refine wpAnyH_take (i := 13) (oi := { dst := some 156, op := Op.load 36 (Operand.tmp 16), type := 36, pos := "outright.go:44", after := #[{ on := 12, ground := Ground.guard }], guard := some (12, true) }) (v := ?v13_8) rfl ?a13_8 ?b13_8 ?c13_8 ?d13_8 (Or.inl ⟨?e13_8, ?y13_8⟩) ?f13_8 ?r13_8
                case a13_8 => kernel_rfl
                case b13_8 => kernel_rfl
                case c13_8 => kernel_rfl
                case d13_8 => exact fun _ _ _ h => h
                case e13_8 => rfl
                case f13_8 => assumption
                case y13_8 => (intro w hSw; (try dsimp only at hSw); go_simp; try with_reducible rfl)
                try simp only [Act.put, List.setIfInBounds_toArray, List.set_cons_zero, List.set_cons_succ]
                refine wpAnyH_take (i := 16) (oi := { dst := some 159, op := Op.load 36 (Operand.tmp 14), type := 36, pos := "outright.go:44", after := #[{ on := 12, ground := Ground.guard }], guard := some (12, true) }) (v := ?v16_9) rfl ?a16_9 ?b16_9 ?c16_9 ?d16_9 (Or.inl ⟨?e16_9, ?y16_9⟩) ?f16_9 ?r16_9
                case a16_9 => kernel_rfl
                case b16_9 => kernel_rfl
                case c16_9 => kernel_rfl
                case d16_9 => exact fun _ _ _ h => h
                case e16_9 => rfl
                case f16_9 => assumption
                case y16_9 => (intro w hSw; (try dsimp only at hSw); go_simp; try with_reducible rfl)
                try simp only [Act.put, List.setIfInBounds_toArray, List.set_cons_zero, List.set_cons_succ]
                refine wpAnyH_ready (rs := [14]) (by kernel_rfl) (by simp) ?_
                refine AllReadyH.cons (o := { dst := some 157, op := Op.call { callee := Callee.value (Operand.func 12), args := #[Operand.tmp 156], argTypes := #[36] }, type := 22, pos := "outright.go:44", after := #[{ on := 13, ground := Ground.data }, { on := 12, ground := Ground.chain }, { on := 12, ground := Ground.guard }], guard := some (12, true) }) rfl (fun K hK => ?_) AllReadyH.nil
                go_simp
                refine Calls.mono (HND2'.out _ ?_) ?_
                exact BM.out
                rintro e wM ⟨⟨y1, y2, rfl, _⟩, hM⟩
                have hB' := BM.out.trans (hM.mono BM.out.size)
                have BM : Hid (Below WB.heap.size WB wM) := hB'
                have zm0 := cell_grown p0 hB'
                have zm1 := cell_grown p1 hB'
                have zm2 := cell_grown q0 hB'
                have zm3 := cell_grown q1 hB'
                have zml := cell_block zm0
                have zmk := cell_block zm2
                clear hM hB'
                (try go_wp2_with fail)
                refine hK.out _ _ ⟨zm0, zm1, zm2, zm3⟩ (fun hHeld => ?_)
                clear hK K
                try simp only [Act.put, List.setIfInBounds_toArray, List.set_cons_zero, List.set_cons_succ]
                refine wpAnyH_take (i := 15) (oi := { dst := some 158, op := Op.call { callee := Callee.builtin Builtin.len, args := #[Operand.tmp 157], argTypes := #[22] }, type := 3, pos := "outright.go:44", after := #[{ on := 14, ground := Ground.data }, { on := 12, ground := Ground.guard }], guard := some (12, true) }) (v := ?v15_10) rfl ?a15_10 ?b15_10 ?c15_10 ?d15_10 (Or.inl ⟨?e15_10, ?y15_10⟩) ?f15_10 ?r15_10
                case a15_10 => kernel_rfl
                case b15_10 => kernel_rfl
                case c15_10 => kernel_rfl
                case d15_10 => exact fun _ _ _ h => h
                case e15_10 => rfl
                case f15_10 => assumption
                case y15_10 => (intro w hSw; (try dsimp only at hSw); go_simp; try with_reducible rfl)
                try simp only [Act.put, List.setIfInBounds_toArray, List.set_cons_zero, List.set_cons_succ]
                refine wpAnyH_ready (rs := [17]) (by kernel_rfl) (by simp) ?_
                refine AllReadyH.cons (o := { dst := some 160, op := Op.call { callee := Callee.value (Operand.func 12), args := #[Operand.tmp 159], argTypes := #[36] }, type := 22, pos := "outright.go:44", after := #[{ on := 16, ground := Ground.data }, { on := 14, ground := Ground.chain }, { on := 12, ground := Ground.guard }], guard := some (12, true) }) rfl (fun K hK => ?_) AllReadyH.nil
                go_simp
                refine Calls.mono (HND1'.out _ ?_) ?_
                exact BM.out
                rintro e wM ⟨⟨x1, x2, rfl, _⟩, hM⟩
                have hB' := BM.out.trans (hM.mono BM.out.size)
                have BM : Hid (Below WB.heap.size WB wM) := hB'
                have zm0 := cell_grown p0 hB'
                have zm1 := cell_grown p1 hB'
                have zm2 := cell_grown q0 hB'
                have zm3 := cell_grown q1 hB'
                have zml := cell_block zm0
                have zmk := cell_block zm2
                clear hM hB'
                (try go_wp2_with fail)
                refine hK.out _ _ ⟨zm0, zm1, zm2, zm3⟩ (fun hHeld => ?_)
                clear hK K
                try simp only [Act.put, List.setIfInBounds_toArray, List.set_cons_zero, List.set_cons_succ]
                refine wpAnyH_take (i := 18) (oi := { dst := some 161, op := Op.call { callee := Callee.builtin Builtin.len, args := #[Operand.tmp 160], argTypes := #[22] }, type := 3, pos := "outright.go:44", after := #[{ on := 17, ground := Ground.data }, { on := 12, ground := Ground.guard }], guard := some (12, true) }) (v := ?v18_11) rfl ?a18_11 ?b18_11 ?c18_11 ?d18_11 (Or.inl ⟨?e18_11, ?y18_11⟩) ?f18_11 ?r18_11
                case a18_11 => kernel_rfl
                case b18_11 => kernel_rfl
                case c18_11 => kernel_rfl
                case d18_11 => exact fun _ _ _ h => h
                case e18_11 => rfl
                case f18_11 => assumption
                case y18_11 => (intro w hSw; (try dsimp only at hSw); go_simp; try with_reducible rfl)
                try simp only [Act.put, List.setIfInBounds_toArray, List.set_cons_zero, List.set_cons_succ]
                refine wpAnyH_take (i := 19) (oi := { dst := some 162, op := Op.binOp BinOp.geq 3 (Operand.tmp 158) (Operand.tmp 161) 3, type := 4, pos := "outright.go:44", after := #[{ on := 15, ground := Ground.data }, { on := 18, ground := Ground.data }, { on := 12, ground := Ground.guard }], guard := some (12, true) }) (v := ?v19_12) rfl ?a19_12 ?b19_12 ?c19_12 ?d19_12 (Or.inl ⟨?e19_12, ?y19_12⟩) ?f19_12 ?r19_12
                case a19_12 => kernel_rfl
                case b19_12 => kernel_rfl
                case c19_12 => kernel_rfl
                case d19_12 => exact fun _ _ _ h => h
                case e19_12 => rfl
                case f19_12 => assumption
                case y19_12 => (intro w hSw; (try dsimp only at hSw); go_simp; try with_reducible rfl)
                try simp only [Act.put, List.setIfInBounds_toArray, List.set_cons_zero, List.set_cons_succ]
                refine wpAnyH_take (i := 20) (oi := { dst := some 163, op := Op.pick (Operand.tmp 155) (Operand.tmp 162) (Operand.const (Value.bool false)), type := 4, pos := "outright.go:44", after := #[{ on := 12, ground := Ground.data }, { on := 19, ground := Ground.data }], guard := none }) (v := ?v20_13) rfl ?a20_13 ?b20_13 ?c20_13 ?d20_13 (Or.inl ⟨?e20_13, ?y20_13⟩) ?f20_13 ?r20_13
                case a20_13 => kernel_rfl
                case b20_13 => kernel_rfl
                case c20_13 => kernel_rfl
                case d20_13 => exact fun _ _ _ h => h
                case e20_13 => rfl
                case f20_13 => assumption
                case y20_13 => (intro w hSw; (try dsimp only at hSw); go_simp; try with_reducible rfl)
                try simp only [Act.put, List.setIfInBounds_toArray, List.set_cons_zero, List.set_cons_succ]
                refine wpAnyH_take (i := 21) (oi := { dst := some 6, op := Op.assign (Operand.tmp 163), type := 4, pos := "outright.go:44", after := #[{ on := 20, ground := Ground.data }, { on := 17, ground := Ground.chain }, { on := 0, ground := Ground.phase }, { on := 1, ground := Ground.phase }, { on := 2, ground := Ground.phase }, { on := 3, ground := Ground.phase }, { on := 4, ground := Ground.phase }, { on := 5, ground := Ground.phase }, { on := 6, ground := Ground.phase }, { on := 7, ground := Ground.phase }, { on := 8, ground := Ground.phase }, { on := 9, ground := Ground.phase }, { on := 10, ground := Ground.phase }, { on := 11, ground := Ground.phase }, { on := 12, ground := Ground.phase }, { on := 13, ground := Ground.phase }, { on := 14, ground := Ground.phase }, { on := 15, ground := Ground.phase }, { on := 16, ground := Ground.phase }, { on := 17, ground := Ground.phase }, { on := 18, ground := Ground.phase }, { on := 19, ground := Ground.phase }, { on := 20, ground := Ground.phase }], guard := none }) (v := ?v21_14) rfl ?a21_14 ?b21_14 ?c21_14 ?d21_14 (Or.inl ⟨?e21_14, ?y21_14⟩) ?f21_14 ?r21_14
                case a21_14 => kernel_rfl
                case b21_14 => kernel_rfl
                case c21_14 => kernel_rfl
                case d21_14 => exact fun _ _ _ h => h
                case e21_14 => rfl
                case f21_14 => assumption
                case y21_14 => (intro w hSw; (try dsimp only at hSw); go_simp; try with_reducible rfl)
                try simp only [Act.put, List.setIfInBounds_toArray, List.set_cons_zero, List.set_cons_succ]
                refine wpAnyH_done (by kernel_rfl) ?_ _
                refine NoPanic.normal ?_
                go_wp2
                go_meet
                exact ⟨rfl, BM⟩
              case rest =>
                rename World => W30
                obtain ⟨rfl, HC⟩ := hcut
                go_wp2
                go_ret
                exact ⟨rfl, HWB.out.trans (HC.out.mono HWB.out.size)⟩
            · have e0 : ((cut : Int) == 0) = false := by simp [hc0']
              have e3 : (r1 == r2) = true := by
                have h1 := HTT.out.2.2.1.root
                have h2 := HTT.out.2.2.2.root
                have hl := HM.out.2.2
                rw [if_neg (fun e => by have := congrArg List.length e; rw [List.length_take, hl] at this; simp at this; omega)] at h1
                rw [if_neg (fun e => by have := congrArg List.length e; rw [hl] at this; simp at this; omega)] at h2
                simp only at h1 h2
                rw [h1, h2]; simp
              go_region_held3 (fun W' => W'.cell? ⟨qa, 0, none⟩ = some (.int .i64 r1) ∧ W'.cell? ⟨qa, 1, none⟩ = some (.map (some g1)) ∧ W'.cell? ⟨qb, 0, none⟩ = some (.int .i64 r2) ∧ W'.cell? ⟨qb, 1, none⟩ = some (.map (some g2)))
                (first
                  | go_keep
                  | assumption)
                (first
                | (go_at_call 7; refine Calls.mono (HAW.out _ ?_) ?_; first | exact BM.out | exact ⟨rfl, rfl, rfl, Nat.le_refl _, fun _ _ => rfl⟩
                   rintro e wM ⟨rfl, hM⟩
                   first | have hB' := BM.out.trans (hM.mono BM.out.size) | have hB' : Below WB.heap.size WB wM := ⟨hM.os, hM.tape, hM.output, hM.size, hM.block⟩
                   have BM : Hid (Below WB.heap.size WB wM) := hB'
                   have zm0 := cell_grown p0 hB'
                   have zm1 := cell_grown p1 hB'
                   have zm2 := cell_grown q0 hB'
                   have zm3 := cell_grown q1 hB'
                   have zml := cell_block zm0
                   have zmk := cell_block zm2
                   clear hM hB')
                | (go_at_call_of 12 g1; refine Calls.mono (HND1'.out _ ?_) ?_; first | exact BM.out | exact ⟨rfl, rfl, rfl, Nat.le_refl _, fun _ _ => rfl⟩
                   rintro e wM ⟨⟨x1, x2, rfl, hi1⟩, hM⟩
                   first | have hB' := BM.out.trans (hM.mono BM.out.size) | have hB' : Below WB.heap.size WB wM := ⟨hM.os, hM.tape, hM.output, hM.size, hM.block⟩
                   have BM : Hid (Below WB.heap.size WB wM) := hB'
                   have zm0 := cell_grown p0 hB'
                   have zm1 := cell_grown p1 hB'
                   have zm2 := cell_grown q0 hB'
                   have zm3 := cell_grown q1 hB'
                   have zml := cell_block zm0
                   have zmk := cell_block zm2
                   clear hM hB' hi1)
                | (go_at_call_of 12 g2; refine Calls.mono (HND2'.out _ ?_) ?_; first | exact BM.out | exact ⟨rfl, rfl, rfl, Nat.le_refl _, fun _ _ => rfl⟩
                   rintro e wM ⟨⟨y1, y2, rfl, hi1⟩, hM⟩
                   first | have hB' := BM.out.trans (hM.mono BM.out.size) | have hB' : Below WB.heap.size WB wM := ⟨hM.os, hM.tape, hM.output, hM.size, hM.block⟩
                   have BM : Hid (Below WB.heap.size WB wM) := hB'
                   have zm0 := cell_grown p0 hB'
                   have zm1 := cell_grown p1 hB'
                   have zm2 := cell_grown q0 hB'
                   have zm3 := cell_grown q1 hB'
                   have zml := cell_block zm0
                   have zmk := cell_block zm2
                   clear hM hB' hi1))
              all_goals
                go_wp2
                go_ret
                exact ⟨rfl, HWB.out.trans (BM.out.mono HWB.out.size)⟩

/-! ### The row's step -/
set_option maxRecDepth 100000 in
theorem lifted (os : Os) (started : os.Started) (H : Type) (enc : TypeId × Value → H) :
    ReturnsInHanded {} Try.checked os 3 .any (Rows.treeMoreSpec.pre6 enc Try.prog Try.f3 Rows.treeMoreRow.domain false) (Rows.treeMoreSpec.post enc Try.prog Try.f3 false true false false) := by
  refine returnsInHanded_of_change (C := Try.checked) own started (by kernel_rfl) Try.func3
    (ChangeSpec.witness6 (enc := enc) (C := Try.checked) false ⟨#[], #[.string ByteArray.empty, .slice none 0 0, .int .i64 0], []⟩ 8 (by kernel_rfl) (by kernel_rfl) (by kernel_rfl) (by kernel_rfl)) ?_
  intro W base args ds gs before hval0 hW hcnd _
  have hval : ∀ (j : Nat) t v, Try.f3.params[j]? = some t → args[j]? = some v → Value.okWide Try.prog W .any base t v := hval0
  have hW' := hW
  obtain ⟨p, q, hA0, hV, rfl, hfz, hnd⟩ := hW
  have hA : DataW.TrodAll enc Try.prog W 0 (fun _ => true) true Try.f3.params.toList args.toList ds p := hA0
  rw [Try.params3] at hA hval
  obtain ⟨v0, vs0, d0, ds0, p0, q0, hargs, rfl, rfl, h0, r0⟩ := trodAll_cons hA
  obtain ⟨v1, vs1, d1, ds1, p1, q1, rfl, rfl, rfl, h1, r1⟩ := trodAll_cons r0
  obtain ⟨v2, vs2, d2, ds2, p2, q2, rfl, rfl, rfl, h2, r2⟩ := trodAll_cons r1
  obtain ⟨rfl, rfl, rfl⟩ := trodAll_nil r2
  obtain rfl : args = #[v0, v1, v2] := by cases args; simp_all
  obtain ⟨rfl, rfl⟩ := trodVars_none hV
  obtain ⟨a0, rfl, rfl, rfl, w0⟩ := open_string Try.underlying9 (hval 0 9 v0 rfl rfl) h0
  obtain ⟨a1, len1, cap1, rfl⟩ := okWide_slice Try.underlying22 (hval 1 22 v1 rfl rfl)
  have k1 := h1
  have lt1 : ∀ x ∈ p1, x.block < W.heap.size := by obtain ⟨m, hm⟩ := k1; exact DataW.trod_lt m _ _ _ hm
  have c1 : len1 ≤ cap1 := by
    obtain ⟨fuel, hf⟩ := h1
    exact incap_of Try.underlying22 hf
  obtain ⟨t1, w1⟩ : ∃ ts, InRow 1 encI i64 0 W a1 len1 ts := by
    obtain ⟨fuel, hf⟩ := h1
    exact inrow_of 1 encI i64 0 22 3 Try.underlying22 cellsI1 (by omega) lenI (fun n cs x => int_of n cs x) hf
  obtain ⟨a2, rfl, rfl, rfl, w2⟩ := open_int Try.underlying3 (hval 2 3 v2 rfl rfl) h2
  clear hA0 hval0
  refine (walk a0 a1 len1 cap1 t1 a2 W w0 w1 c1 w2).mono fun e W' ⟨he, bel⟩ => ?_
  subst he
  exact ⟨_, rfl, _, _, _, [], _, [], hW', trodAll_mk1 (shut_bool Try.underlying4 _), (trodAll_cons_mk (shut_string Try.underlying9 w0) (trodAll_cons_mk (Below.trod laidOut (by kernel_rfl) (of_decide_eq_true (by kernel_rfl)) k1 bel lt1) (trodAll_cons_mk (shut_int Try.underlying3 w2) trodAll_mk0))), rfl, bel.frame _, fun h => by cases h⟩

theorem over : Rows.treeMoreRow.holds Try.pinned (OpenSpec.ofChange Rows.treeMoreSpec) :=
  OpenClaim.holds_of_wide 3 Try.f3 rfl rfl rfl rfl rfl rfl rfl ⟨rfl, rfl, rfl, rfl, rfl⟩ rfl rfl rfl rfl rfl (by kernel_rfl) Try.func3 (by kernel_rfl)
    (of_decide_eq_true (by kernel_rfl)) (by unfold Func.isWrapper; first | (rw [if_pos (by decide +kernel)]; kernel_rfl) | (rw [if_neg (by decide +kernel)]; exact ⟨rfl, rfl⟩))
    (fun os started H enc _ => lifted os started H enc)

end Go.Proofs.Ytkkkldglceiiiaa.treeMore

namespace Go.Proofs.Ytkkkldglceiiiaa
/-- Proved: for every name, all members and every cut (names of more than 60 bytes, more than 12 members and cuts that are none apart): of base members the tree of all has each node of the tree of the first, as deep, and each that tells it; where somebody doesn't live that is told. -/
theorem treeMore_holds : Rows.TreeMoreSaid := treeMore.over
#print axioms treeMore_holds
end Go.Proofs.Ytkkkldglceiiiaa
