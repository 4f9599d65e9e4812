/- Proved: for every name and all members (names of more than 60 bytes and more than 12 members apart): of base members the tree doesn't hang on the order of its members, and its root is the owner of the group's key.
  The frame is the guide's own shell (proof-skeleton.mjs) at this function; the walk and all ahead of it are mine. -/
import Derived.Test.YtkkkldglceiiiaaRows
import Derived.Test.YtkkkldglceiiiaaJoinChStay
import Derived.Test.YtkkkldglceiiiaaChAwake
import Derived.Deep.RegionWith
import Derived.Deep.CutBlock
import Derived.Deep.DeepCutAuto
import Derived.Deep.LoopGhost
import Derived.Deep.RegionHeld3
import Derived.WalkKit
import Derived.WalkLawsBesides
import Derived.ProofKit
import Derived.OpenShut
import Derived.ShutString
import Derived.ChangeOld
import Derived.Below
namespace Go.Proofs.Ytkkkldglceiiiaa.treeOrder
open Go.ChangeShapes Go.WideShapes Go.ChangeAt Go.RowKit
open Go.ChangeMaps (open_string shut_string)
set_option linter.unusedVariables false

theorem own : ownKnob Try.prog.godebug = none := by kernel_rfl
theorem laidOut : laidOutB Try.prog = true := by kernel_rfl


/-! ### STEP 1: the walk -/
set_option maxRecDepth 100000 in
set_option maxHeartbeats 20000000 in
theorem walk (a0 : ByteArray) (a1 : Option Addr) (len1 cap1 : Nat) (t1 : List Int) (w : World) (w0 : a0.size ≤ maxLen) (w1 : InRow 1 encI i64 0 w a1 len1 t1) :
    Calls Try.prog 4 #[.string a0, .slice a1 len1 cap1] w fun e w' => e = .returned (.bool true) ∧ Below w.heap.size w w' := by
  obtain ⟨i0, hif, hz0, hz1, hz2⟩ := info_of Try.infoInt
  have HM : Hid (InIn w a1 len1 t1 ∧ t1.length = len1) := ⟨w1, w1.1⟩
  have z1 := w1.2.1
  have z0 := w0
  unfold maxLen at z0
  clear w0 w1
  go_enter Try.func4, Try.ntmps4
  go_wp2_with fail
  refine (base_r w).mono ?_
  rintro e w1 ⟨rfl, h1, b1⟩
  go_wp2_with fail
  refine (new_base _ _ _ h1).mono ?_
  rintro e w2 ⟨r, gp, gk, rfl, hr, l1, l2, l3, b2⟩
  have H2 : Hid (Rn w w2 r gp gk ringA) := ⟨hr, ringA_inv, b1.trans (b2.mono b1.size), Nat.le_trans b1.size l2, Nat.le_trans b1.size l3⟩
  clear h1 b1 hr l1 l2 l3 b2
  by_cases hbig : 60 < a0.size ∨ 12 < len1
  · go_upto_region 2 with fail
    go_cut [38] (fun v wx => v = .bool true ∧ wx = w2)
    case first =>
      by_cases h0 : 60 < a0.size
      · go_wp2
        go_meet
        exact ⟨rfl, rfl⟩
      · have h1 : 12 < len1 := by omega
        have h1I : (12 : Int) < (len1 : Int) := by omega
        go_wp2
        go_meet
        exact ⟨by simp, rfl⟩
    case rest =>
      rename World => W3
      obtain ⟨rfl, hw3⟩ := hcut
      subst W3
      clear hbig
      go_wp2_with (go_at_call 7; refine (awake20_any _).mono ?_; rintro e w3 ⟨rfl, b3⟩)
      go_ret
      exact ⟨rfl, (H2.out.below b3).bel⟩
  · have hb0 : a0.size ≤ 60 := by omega
    have hb1 : len1 ≤ 12 := by omega
    clear hbig
    obtain ⟨W3, hW3⟩ : ∃ W, W = (w2.alloc (.cells #[] 3)).alloc (.cells #[] 3) := ⟨_, rfl⟩
    obtain ⟨qx, hqx⟩ : ∃ q, q = w2.heap.size := ⟨_, rfl⟩
    have H3 : Hid (Tw w2 W3 (.slice (some ⟨qx, 0, none⟩) 0 0) (.slice (some ⟨qx + 1, 0, none⟩) 0 0) [] []) := by rw [hW3, hqx]; exact Tw.start w2
    go_upto_region 5 with fail
    rw [← hW3]
    try rw [← hqx]
    clear hW3 hqx
    go_wp2
    go_loopg [7, 8, 52] len1 (fun kx v1 v2 s wr => ∃ (i : Nat) (xa : Option Addr) (xn xc : Nat) (ya : Option Addr) (yn yc : Nat), s = .int .i64 i ∧ v1 = .slice xa xn xc ∧ v2 = .slice ya yn yc ∧ i ≤ len1 ∧ kx = len1 - i ∧ xn ≤ i ∧ yn ≤ i ∧ Hid (∃ L, Tw w2 wr (.slice xa xn xc) (.slice ya yn yc) L L.reverse ∧ L.length = xn ∧ L.length = yn ∧ L = (t1.take i).filter (fun m => ringA.lives m)))
    case atStart => exact ⟨0, _, 0, 0, _, 0, 0, rfl, rfl, rfl, Nat.zero_le _, rfl, Nat.le_refl _, Nat.le_refl _, ⟨[], H3.out, rfl, rfl, by simp⟩⟩
    case round =>
      obtain ⟨i, xa, xn, xc, ya, yn, yc, rfl, rfl, rfl, hi, rfl, hxi, hyi, HB⟩ := hrel
      obtain ⟨L, hT, hL1, hL2, hLf⟩ := HB.out
      have HT : Hid (Tw w2 wr (.slice xa xn xc) (.slice ya yn yc) L L.reverse ∧ L.length = xn ∧ L.length = yn ∧ L = (t1.take i).filter (fun m => ringA.lives m)) := ⟨hT, hL1, hL2, hLf⟩
      clear HB hT hL1 hL2 hLf
      by_cases hlt : i < len1
      · obtain ⟨mb, mo, hmb, hml, _, hmc⟩ := (HM.out.1.below (Nat.le_refl _) (H2.out.bel.trans (HT.out.1.bel.mono H2.out.bel.size))).one (v := Value.int .i64) (fun _ => rfl) (i := i) hlt
        subst hmb
        have hsn := take_snocI t1 (j := i) (by rw [HM.out.2]; exact hlt)
        obtain ⟨y, hy⟩ : ∃ y, y = t1.getD i 0 := ⟨_, rfl⟩
        rw [← hy] at hmc hsn
        have HSN : Hid (t1.take (i + 1) = t1.take i ++ [y]) := hsn
        clear hy hsn
        go_wp2_with fail
        refine (lives_r r gp gk ringA y _ (H2.out.ring.below HT.out.1.bel)).mono ?_
        rintro e w4 ⟨rfl, b4⟩
        have H4 : Hid (Tw w2 w4 (.slice xa xn xc) (.slice ya yn yc) L L.reverse) := HT.out.1.below b4
        clear b4 hmc hml
        cases hlv : ringA.lives y with
        | false =>
          have HLf : Hid (L = (t1.take (i + 1)).filter (fun m => ringA.lives m)) := by
            show L = _
            rw [HSN.out, List.filter_append, ← HT.out.2.2.2]; simp [hlv]
          clear hlv
          go_wp2
          go_roundg (len1 - (i + 1))
          case measure => omega
          case rel => exact ⟨i + 1, xa, xn, xc, ya, yn, yc, by go_num, rfl, rfl, by omega, rfl, by omega, by omega, ⟨L, H4.out, HT.out.2.1, HT.out.2.2.1, HLf.out⟩⟩
        | true =>
          have HLf : Hid (L ++ [y] = (t1.take (i + 1)).filter (fun m => ringA.lives m)) := by
            show L ++ [y] = _
            rw [HSN.out, List.filter_append, ← HT.out.2.2.2]; simp [hlv]
          clear hlv
          have HA : Hid ((w4.alloc (.cells #[.int .i64 y] 3)).ownsRow w2.heap.size 3 1 (.slice xa xn xc) xn (L.map cellI)) := by
            have := (H4.out.below (below_one w4 (.cells #[.int .i64 y] 3))).r1
            rw [HT.out.2.1] at this
            exact this
          have HSz : Hid (w2.heap.size ≤ w4.heap.size) := H4.out.bel.size
          go_wp2_with (at_builtin; go_loud (refine wpList_own_append _ rfl _ _ 22 22 rfl w2.heap.size 3 i0 _ 8 Try.underlying22 hif hz0 hz1 hz2 rfl _ _ _ rfl HA.out _ 1 [cellI y] rfl (src_oneT w4 y) (by unfold maxLen; omega) (by omega) (by have := HSz.out; simp; omega) ?_))
          intro v' w6 ha
          obtain ⟨x6, k6, rfl⟩ := ha.shape
          have H6 : Hid (Tw w2 w6 (.slice x6 (xn + 1) k6) (.slice ya yn yc) (L ++ [y]) L.reverse) := by
            have := HT.out.2.1
            subst this
            exact H4.out.app _ ha
          clear ha HA HSz
          have HR : Hid (L.reverse.length = yn) := by show _ = _; rw [List.length_reverse]; exact HT.out.2.2.1
          have HB2 : Hid ((w6.alloc (.cells #[.int .i64 y] 3)).ownsRow w2.heap.size 3 1 (.slice (some ⟨w6.heap.size, 0, none⟩) 1 1) 1 [cellI y]) := one_row y H6.out.bel.size
          have HSR : Hid (Src Try.prog 1 22 (.slice ya yn yc) yn (L.reverse.map cellI) (w6.alloc (.cells #[.int .i64 y] 3))) := by
            have h2 := (H6.out.below (below_one w6 (.cells #[.int .i64 y] 3))).r2
            rw [HR.out] at h2
            refine src_ints (in_of_own h2 (fun m hm => ?_) (by omega)) (fun e => ?_)
            · rw [List.mem_reverse, HT.out.2.2.2] at hm
              have := ringA_inv.rng m (by simpa using (List.mem_filter.1 hm).2)
              unfold i64; omega
            · subst e
              rcases h2.2 with ⟨_, e⟩ | ⟨_, _, _, hv, _⟩
              · exact e
              · cases hv
          have HSz : Hid (w2.heap.size ≤ w6.heap.size) := H6.out.bel.size
          go_wp2_with (at_builtin; go_loud (refine wpList_own_append _ rfl _ _ 22 22 rfl w2.heap.size 3 i0 _ 8 Try.underlying22 hif hz0 hz1 hz2 rfl _ _ _ rfl HB2.out _ yn _ rfl HSR.out (by unfold maxLen; omega) (by omega) (by have := HSz.out; simp; omega) ?_))
          intro v' w7 ha
          obtain ⟨x7, k7, rfl⟩ := ha.shape
          have H7 : Hid (Tw w2 w7 (.slice x6 (xn + 1) k6) (.slice x7 (1 + yn) k7) (L ++ [y]) (L ++ [y]).reverse) := by
            have hr := HR.out
            subst hr
            rw [List.reverse_append]
            exact H6.out.front (by rw [List.map_reverse]; exact ha)
          clear ha HB2 HSR HSz
          go_wp2
          go_roundg (len1 - (i + 1))
          case measure => omega
          case rel => exact ⟨i + 1, x6, xn + 1, k6, x7, 1 + yn, k7, by go_num, rfl, rfl, by omega, rfl, by omega, by omega, ⟨L ++ [y], H7.out, by have := HT.out.2.1; simp; omega, by have := HT.out.2.2.1; simp; omega, HLf.out⟩⟩
      · have hii : len1 = i := by omega
        subst hii
        have hlv : ∀ m ∈ L, ringA.lives m = true := fun m hm => by
          rw [HT.out.2.2.2] at hm; simpa using (List.mem_filter.1 hm).2
        have HLV : Hid (∀ m ∈ L, ringA.lives m = true) := hlv
        have hrg : ∀ m ∈ L, i64 m := fun m hm => by have := ringA_inv.rng m (hlv m hm); unfold i64; omega
        have hx12 : xn ≤ 12 := by omega
        have hy12 : yn ≤ 12 := by omega
        have HI : Hid (InIn wr xa xn L ∧ InIn wr ya yn L.reverse) := by
          have hr1 := HT.out.1.r1
          rw [HT.out.2.1] at hr1
          have hr2 := HT.out.1.r2
          rw [List.length_reverse, HT.out.2.2.1] at hr2
          exact ⟨in_of_own hr1 hrg (by omega), in_of_own hr2 (fun m hm => hrg m (List.mem_reverse.1 hm)) (by omega)⟩
        have HXL : Hid (L.length = xn) := HT.out.2.1
        have H2' : Hid (Rn w wr r gp gk ringA) := H2.out.below HT.out.1.bel
        clear H2 HT hlv hrg HM hi hxi hyi hlt z0 z1
        go_wp2_with fail
        refine (fnew_b w wr r gp gk ringA H2'.out).mono ?_
        rintro e w3 ⟨f, gm, rfl, h3, b3⟩
        have H3 : Hid (Rt w w3 r gp gk f gm ringA (fun _ => [])) := h3
        have HI3 : Hid (InIn w3 xa xn L ∧ InIn w3 ya yn L.reverse) := ⟨HI.out.1.below (Nat.le_refl _) b3, HI.out.2.below (Nat.le_refl _) b3⟩
        clear h3 b3 HI H2'
        obtain ⟨C, hC⟩ := cir_ex ringA_inv
        obtain ⟨ro, hcv, _⟩ := conv_ring ringA_rgt hC (fun _ => []) (gkey_plc a0)
        have HCV : Hid (Conv (nxR ringA (fun _ => []) (gkeyT a0)) (fun n => ringA.lives n = true) (ringA.nextTo (fun _ => []) (gkeyT a0)) ro) := hcv
        have HOWN : Hid (∀ W, Below w3.heap.size w3 W → Calls Try.prog 17 #[.pointer (some ⟨r, 0, none⟩)] W fun e w' => ∃ (g : Nat) (b : Option Addr) (c d : Nat), e = .returned (.agg #[.slice (some ⟨g, 0, none⟩) ringA.live.length c, .slice b ringA.live.length d]) ∧ Below W.heap.size W w' ∧
            ∀ W', Below w'.heap.size w' W' → Calls Try.prog 18 #[.agg #[.slice (some ⟨g, 0, none⟩) ringA.live.length c, .slice b ringA.live.length d], .int .u64 (gkeyT a0)] W' fun e w9 => e = .returned (.int .i64 ro) ∧ Below W'.heap.size W' w9) := fun W hW =>
          owner_is ringA_rgt (fun _ => []) (gkey_plc a0) HCV.out r gp gk W (H3.out.rn.ring.below hW)
        have HOF : Hid (∀ W, Below w3.heap.size w3 W → ∀ a n c, n ≤ 12 → ∀ ms, InIn W a n ms → Calls Try.prog 10 #[.iface 31 (.pointer (some ⟨f, 0, none⟩)), .string a0, .slice a n c] W fun e w' => OfR e w' (treeOf (nxR ringA (fun _ => []) (gkeyT a0)) ms).1 (treeOf (nxR ringA (fun _ => []) (gkeyT a0)) ms).2 ∧ Below W.heap.size W w') := fun W hW a n c hn ms hms =>
          tree_of W _ _ _ _ a0 a n c ms (by omega) hms (wk_ring W r gp gk f gm ringA (fun _ => []) (gkeyT a0) (H3.out.rn.ring.below hW) (H3.out.fg.below hW) ringA_inv) (nxR_neg ringA_inv _ _) (by omega)
        have HFW : Hid (∀ t, TrOk (nxR ringA (fun _ => []) (gkeyT a0)) t → TrFew ringA t) := fun t ht => few_ring ringA_inv ht
        clear hC hcv
        generalize (nxR ringA (fun _ => []) (gkeyT a0)) = nx at HCV HOF HFW
        obtain ⟨z1, T1⟩ := HCV.out.tree L HLV.out
        obtain ⟨z2, T2⟩ := HCV.out.tree L.reverse (fun m hm => HLV.out m (List.mem_reverse.1 hm))
        have HOA : Hid (∀ W, Below w3.heap.size w3 W → Calls Try.prog 10 #[.iface 31 (.pointer (some ⟨f, 0, none⟩)), .string a0, .slice xa xn xc] W fun e w' => OfR e w' (treeOf nx L).1 (treeOf nx L).2 ∧ Below W.heap.size W w') := fun W hW =>
          HOF.out W hW xa xn xc hx12 L (HI3.out.1.below (Nat.le_refl _) hW)
        have HOB : Hid (∀ W, Below w3.heap.size w3 W → Calls Try.prog 10 #[.iface 31 (.pointer (some ⟨f, 0, none⟩)), .string a0, .slice ya yn yc] W fun e w' => OfR e w' (treeOf nx L.reverse).1 (treeOf nx L.reverse).2 ∧ Below W.heap.size W w') := fun W hW =>
          HOF.out W hW ya yn yc hy12 L.reverse (HI3.out.2.below (Nat.le_refl _) hW)
        have HTT : Hid ((treeOf nx L).1 = 0 ∧ (treeOf nx L.reverse).1 = 0 ∧ TrIs nx (ringA.nextTo (fun _ => []) (gkeyT a0)) ro L (treeOf nx L).2 ∧ TrIs nx (ringA.nextTo (fun _ => []) (gkeyT a0)) ro L.reverse (treeOf nx L.reverse).2) := ⟨z1, z2, T1, T2⟩
        clear z1 z2 T1 T2 HOF
        generalize treeOf nx L = tr1 at HTT HOA
        generalize treeOf nx L.reverse = tr2 at HTT HOB
        obtain ⟨e1, A⟩ := tr1
        obtain ⟨e2, Bt⟩ := tr2
        simp only at HTT HOA HOB
        obtain ⟨r1, u1⟩ := A
        obtain ⟨r2, u2⟩ := Bt
        obtain rfl : r2 = r1 := by
          have h1 := HTT.out.2.2.1.root
          have h2 := HTT.out.2.2.2.root
          simp only [List.reverse_eq_nil_iff] at h1 h2
          rw [h1, h2]
        go_wp2_with fail
        refine Calls.mono (HOA.out _ (Below.refl _ _)) ?_
        rintro e w5 ⟨h5, b5⟩
        rcases h5 with ⟨h, _⟩ | ⟨_, g1, rfl, hu1⟩
        · exact absurd HTT.out.1 h
        (try simp only at hu1)
        obtain ⟨W6, hW6⟩ : ∃ W, W = w5.alloc (.cells #[.int .i64 r2, .map (some g1)] 36) := ⟨_, rfl⟩
        obtain ⟨qa, hqa⟩ : ∃ q, q = w5.heap.size := ⟨_, rfl⟩
        have b6 : Below w5.heap.size w5 W6 := by rw [hW6]; exact below_one _ _
        have p0 : W6.cell? ⟨qa, 0, none⟩ = some (.int .i64 r2) := by rw [hW6, hqa]; exact World.cell?_alloc_new ..
        have p1 : W6.cell? ⟨qa, 1, none⟩ = some (.map (some g1)) := by rw [hW6, hqa]; simp
        have H6 : Hid (Below w3.heap.size w3 W6 ∧ UpAt W6 g1 u1) := ⟨b5.trans (b6.mono b5.size), UpAt.below (m := u1) hu1 b6⟩
        clear b5 b6 hu1
        go_upto_region 14 with fail
        rw [← hW6]
        try rw [← hqa]
        clear hW6 hqa
        go_wp2_with fail
        refine Calls.mono (HOB.out _ H6.out.1) ?_
        rintro e w7 ⟨h7, b7⟩
        rcases h7 with ⟨h, _⟩ | ⟨_, g2, rfl, hu2⟩
        · exact absurd HTT.out.2.1 h
        (try simp only at hu2)
        obtain ⟨W8, hW8⟩ : ∃ W, W = w7.alloc (.cells #[.int .i64 r2, .map (some g2)] 36) := ⟨_, rfl⟩
        obtain ⟨qb, hqb⟩ : ∃ q, q = w7.heap.size := ⟨_, rfl⟩
        have b8 : Below w7.heap.size w7 W8 := by rw [hW8]; exact below_one _ _
        have b68 : Below W6.heap.size W6 W8 := b7.trans (b8.mono b7.size)
        have q0 : W8.cell? ⟨qb, 0, none⟩ = some (.int .i64 r2) := by rw [hW8, hqb]; exact World.cell?_alloc_new ..
        have q1 : W8.cell? ⟨qb, 1, none⟩ = some (.map (some g2)) := by rw [hW8, hqb]; simp
        have ql := cell_block q0
        replace p0 := cell_grown p0 b68
        replace p1 := cell_grown p1 b68
        have pl := cell_block p0
        have H8 : Hid (Below w3.heap.size w3 W8 ∧ UpAt W8 g1 u1 ∧ UpAt W8 g2 u2) := ⟨H6.out.1.trans (b68.mono H6.out.1.size), H6.out.2.below b68, UpAt.below (m := u2) hu2 b8⟩
        clear b7 b8 b68 hu2 H6
        go_upto_region 15 with fail
        rw [← hW8]
        try rw [← hqb]
        clear hW8 hqb HOA HOB
        have HF1 : Hid (TrFew ringA ⟨r2, u1⟩) := HFW.out _ HTT.out.2.2.1.ok
        have HF2 : Hid (TrFew ringA ⟨r2, u2⟩) := HFW.out _ HTT.out.2.2.2.ok
        have HSM : Hid (∀ x, (⟨r2, u1⟩ : Tr).inT x ↔ (⟨r2, u2⟩ : Tr).inT x) := fun x => by
          rw [HTT.out.2.2.1.nodes x, HTT.out.2.2.2.nodes x]; simp
        have HUP : Hid (∀ x y, lookI u1 x = some y ↔ lookI u2 x = some y) := fun x y => by
          have h1 := HTT.out.2.2.1.up x y
          have h2 := HTT.out.2.2.2.up x y
          rw [HSM.out x] at h1
          exact h1.trans h2.symm
        obtain ⟨L1, hp1, hm1⟩ := HTT.out.2.2.1.ok.nodes_ex
        have HL1 : Hid (L1.Pairwise (· < ·) ∧ ∀ x, x ∈ L1 ↔ (⟨r2, u1⟩ : Tr).inT x) := ⟨hp1, hm1⟩
        clear hp1 hm1
        have HND1 : Hid (∀ W, Below W8.heap.size W8 W → Calls Try.prog 12 #[.agg #[.int .i64 r2, .map (some g1)]] W fun e w' => (∃ a c, e = .returned (.slice a L1.length c) ∧ InIn w' a L1.length L1) ∧ Below W.heap.size W w') := fun W hW =>
          nodes_c (t := ⟨r2, u1⟩) HL1.out.1 HL1.out.2 W (H8.out.2.1.below hW) HF1.out.len HF1.out.key HF1.out.rot HTT.out.2.2.1.ok
        have HND2 : Hid (∀ W, Below W8.heap.size W8 W → Calls Try.prog 12 #[.agg #[.int .i64 r2, .map (some g2)]] W fun e w' => (∃ a c, e = .returned (.slice a L1.length c) ∧ InIn w' a L1.length L1) ∧ Below W.heap.size W w') := fun W hW =>
          nodes_c (t := ⟨r2, u2⟩) HL1.out.1 (fun x => (HL1.out.2 x).trans (HSM.out x)) W (H8.out.2.2.below hW) HF2.out.len HF2.out.key HF2.out.rot HTT.out.2.2.2.ok
        go_cut [106] (fun v wx => v = .bool false ∧ Hid (Below W8.heap.size W8 wx))
        case first =>
          have err : (r2 != r2) = false := by simp
          go_region_held3 (fun W' => W'.cell? ⟨qa, 0, none⟩ = some (.int .i64 r2) ∧ W'.cell? ⟨qa, 1, none⟩ = some (.map (some g1)) ∧ W'.cell? ⟨qb, 0, none⟩ = some (.int .i64 r2) ∧ W'.cell? ⟨qb, 1, none⟩ = some (.map (some g2)))
            (first
              | go_keep
              | assumption)
            (first
              | (go_at_call_of 12 g1; refine Calls.mono (HND1.out _ ?_) ?_; first | exact BM.out | exact ⟨rfl, rfl, rfl, Nat.le_refl _, fun _ _ => rfl⟩
                 rintro e wM ⟨⟨x1, x2, rfl, hi1⟩, hM⟩
                 first | have hB' := BM.out.trans (hM.mono BM.out.size) | have hB' : Below W8.heap.size W8 wM := ⟨hM.os, hM.tape, hM.output, hM.size, hM.block⟩
                 have BM : Hid (Below W8.heap.size W8 wM) := hB'
                 have zm0 := cell_grown p0 hB'
                 have zm1 := cell_grown p1 hB'
                 have zm2 := cell_grown q0 hB'
                 have zm3 := cell_grown q1 hB'
                 have zml := cell_block zm0
                 have zmk := cell_block zm2
                 have HX1 : Hid (InIn wM x1 L1.length L1) := hi1
                 clear hM hB' hi1)
              | (go_at_call_of 12 g2; refine Calls.mono (HND2.out _ ?_) ?_; first | exact BM.out | exact ⟨rfl, rfl, rfl, Nat.le_refl _, fun _ _ => rfl⟩
                 rintro e wM ⟨⟨y1, y2, rfl, hi1⟩, hM⟩
                 have HX3 : Hid (InIn wM x1 L1.length L1) := HX1.out.below (Nat.le_refl _) hM
                 first | have hB' := BM.out.trans (hM.mono BM.out.size) | have hB' : Below W8.heap.size W8 wM := ⟨hM.os, hM.tape, hM.output, hM.size, hM.block⟩
                 have BM : Hid (Below W8.heap.size W8 wM) := hB'
                 have zm0 := cell_grown p0 hB'
                 have zm1 := cell_grown p1 hB'
                 have zm2 := cell_grown q0 hB'
                 have zm3 := cell_grown q1 hB'
                 have zml := cell_block zm0
                 have zmk := cell_block zm2
                 have HX2 : Hid (InIn wM y1 L1.length L1) := hi1
                 clear hM hB' hi1)
              | (go_at_call 16; refine Calls.mono (ints_same x1 _ _ y1 _ _ L1 _ HX3.out HX2.out) ?_
                 rintro e wM ⟨rfl, hM⟩
                 first | have hB' := BM.out.trans (hM.mono BM.out.size) | have hB' : Below W8.heap.size W8 wM := ⟨hM.os, hM.tape, hM.output, hM.size, hM.block⟩
                 have BM : Hid (Below W8.heap.size W8 wM) := hB'
                 have zm0 := cell_grown p0 hB'
                 have zm1 := cell_grown p1 hB'
                 have zm2 := cell_grown q0 hB'
                 have zm3 := cell_grown q1 hB'
                 have zml := cell_block zm0
                 have zmk := cell_block zm2
                 clear hM hB'))
          all_goals
            go_wp2
            go_meet
            exact ⟨by simp, BM⟩
        case rest =>
          rename World => W9
          obtain ⟨rfl, HC⟩ := hcut
          have H9b : Hid (Below W8.heap.size W8 W9) := HC
          replace p0 := cell_grown p0 HC.out
          replace p1 := cell_grown p1 HC.out
          replace pl := cell_block p0
          replace q0 := cell_grown q0 HC.out
          replace q1 := cell_grown q1 HC.out
          replace ql := cell_block q0
          clear HC
          go_wp2_with fail
          refine Calls.mono (HND1.out _ H9b.out) ?_
          rintro e w9 ⟨⟨xd, xe, rfl, hin9⟩, b9⟩
          have H9 : Hid (Below W8.heap.size W8 w9 ∧ InIn w9 xd L1.length L1) := ⟨H9b.out.trans (b9.mono H9b.out.size), hin9⟩
          have hn9 := hin9.2.1
          obtain ⟨n1, hn1⟩ : ∃ n, n = L1.length := ⟨_, rfl⟩
          rw [← hn1] at hn9 ⊢
          have HN1 : Hid (n1 = L1.length) := hn1
          replace p0 := cell_grown p0 b9
          replace p1 := cell_grown p1 b9
          replace pl := cell_block p0
          replace q0 := cell_grown q0 b9
          replace q1 := cell_grown q1 b9
          replace ql := cell_block q0
          clear hin9 b9 hn1 H9b
          go_wp2
          go_loopg [110] n1 (fun kx s wr => ∃ j : Nat, s = .int .i64 j ∧ j ≤ n1 ∧ kx = n1 - j ∧ Hid (Below w9.heap.size w9 wr))
          case atStart => exact ⟨0, rfl, Nat.zero_le _, rfl, (Below.refl _ _ : Below w9.heap.size w9 w9)⟩
          case round =>
            obtain ⟨j, rfl, hj, rfl, HB⟩ := hrel
            have B8 : Hid (Below W8.heap.size W8 wr) := H9.out.1.trans (HB.out.mono H9.out.1.size)
            have p00 := cell_grown p0 HB.out
            have p11 := cell_grown p1 HB.out
            have p22 := cell_block p00
            have q00 := cell_grown q0 HB.out
            have q11 := cell_grown q1 HB.out
            have q22 := cell_block q00
            by_cases hjl : j < n1
            · have hjlI : (j : Int) < (n1 : Int) := by omega
              obtain ⟨mb, mo, hmb, hml, _, hmc⟩ := (H9.out.2.below (Nat.le_refl _) HB.out).one (v := Value.int .i64) (fun _ => rfl) (i := j) (by have := HN1.out; omega)
              subst hmb
              obtain ⟨y, hy⟩ : ∃ y, y = L1.getD j 0 := ⟨_, rfl⟩
              rw [← hy] at hmc
              clear hy
              obtain ⟨Lc, hpc, hmm⟩ := HTT.out.2.2.1.ok.childs_ex y
              have HLC : Hid (Lc.Pairwise (· < ·) ∧ ∀ x, x ∈ Lc ↔ lookI u1 x = some y) := ⟨hpc, hmm⟩
              clear hpc hmm
              have HC1 : Hid (∀ W, Below wr.heap.size wr W → Calls Try.prog 14 #[.agg #[.int .i64 r2, .map (some g1)], .int .i64 y] W fun e w' => (∃ a c, e = .returned (.slice a Lc.length c) ∧ InIn w' a Lc.length Lc) ∧ Below W.heap.size W w') := fun W hW =>
                childs_c (t := ⟨r2, u1⟩) HLC.out.1 HLC.out.2 W ((H8.out.2.1.below B8.out).below hW) HF1.out.len HF1.out.key
              have HC2 : Hid (∀ W, Below wr.heap.size wr W → Calls Try.prog 14 #[.agg #[.int .i64 r2, .map (some g2)], .int .i64 y] W fun e w' => (∃ a c, e = .returned (.slice a Lc.length c) ∧ InIn w' a Lc.length Lc) ∧ Below W.heap.size W w') := fun W hW =>
                childs_c (t := ⟨r2, u2⟩) HLC.out.1 (fun x => (HLC.out.2 x).trans (HUP.out x y)) W ((H8.out.2.2.below B8.out).below hW) HF2.out.len HF2.out.key
              go_upto_region 20 with fail
              go_cut [121] (fun v wx => v = .bool false ∧ Hid (Below wr.heap.size wr wx))
              case first =>
                go_region_held3 (fun W' => W'.cell? ⟨qa, 0, none⟩ = some (.int .i64 r2) ∧ W'.cell? ⟨qa, 1, none⟩ = some (.map (some g1)) ∧ W'.cell? ⟨qb, 0, none⟩ = some (.int .i64 r2) ∧ W'.cell? ⟨qb, 1, none⟩ = some (.map (some g2)))
                  (first
                    | go_keep
                    | assumption)
                  (first
                    | (go_at_call_of 14 g1; refine Calls.mono (HC1.out _ ?_) ?_; first | exact BM.out | exact ⟨rfl, rfl, rfl, Nat.le_refl _, fun _ _ => rfl⟩
                       rintro e wM ⟨⟨x1, x2, rfl, hi1⟩, hM⟩
                       first | have hB' := BM.out.trans (hM.mono BM.out.size) | have hB' : Below wr.heap.size wr wM := ⟨hM.os, hM.tape, hM.output, hM.size, hM.block⟩
                       have BM : Hid (Below wr.heap.size wr wM) := hB'
                       have zm0 := cell_grown p00 hB'
                       have zm1 := cell_grown p11 hB'
                       have zm2 := cell_grown q00 hB'
                       have zm3 := cell_grown q11 hB'
                       have zml := cell_block zm0
                       have zmk := cell_block zm2
                       have HX1 : Hid (InIn wM x1 Lc.length Lc) := hi1
                       clear hM hB' hi1)
                    | (go_at_call_of 14 g2; refine Calls.mono (HC2.out _ ?_) ?_; first | exact BM.out | exact ⟨rfl, rfl, rfl, Nat.le_refl _, fun _ _ => rfl⟩
                       rintro e wM ⟨⟨y1, y2, rfl, hi1⟩, hM⟩
                       have HX3 : Hid (InIn wM x1 Lc.length Lc) := HX1.out.below (Nat.le_refl _) hM
                       first | have hB' := BM.out.trans (hM.mono BM.out.size) | have hB' : Below wr.heap.size wr wM := ⟨hM.os, hM.tape, hM.output, hM.size, hM.block⟩
                       have BM : Hid (Below wr.heap.size wr wM) := hB'
                       have zm0 := cell_grown p00 hB'
                       have zm1 := cell_grown p11 hB'
                       have zm2 := cell_grown q00 hB'
                       have zm3 := cell_grown q11 hB'
                       have zml := cell_block zm0
                       have zmk := cell_block zm2
                       have HX2 : Hid (InIn wM y1 Lc.length Lc) := hi1
                       clear hM hB' hi1)
                    | (go_at_call 16; refine Calls.mono (ints_same x1 _ _ y1 _ _ Lc _ HX3.out HX2.out) ?_
                       rintro e wM ⟨rfl, hM⟩
                       first | have hB' := BM.out.trans (hM.mono BM.out.size) | have hB' : Below wr.heap.size wr wM := ⟨hM.os, hM.tape, hM.output, hM.size, hM.block⟩
                       have BM : Hid (Below wr.heap.size wr wM) := hB'
                       have zm0 := cell_grown p00 hB'
                       have zm1 := cell_grown p11 hB'
                       have zm2 := cell_grown q00 hB'
                       have zm3 := cell_grown q11 hB'
                       have zml := cell_block zm0
                       have zmk := cell_block zm2
                       clear hM hB'))
                all_goals
                  go_wp2
                  go_meet
                  exact ⟨by simp, BM⟩
              case rest =>
                rename World => W10
                obtain ⟨rfl, HC⟩ := hcut
                have HB10 : Hid (Below w9.heap.size w9 W10) := HB.out.trans (HC.out.mono HB.out.size)
                clear p00 p11 p22 q00 q11 q22 hmc hml HC HC1 HC2
                go_wp2
                go_roundg (n1 - (j + 1))
                case measure => omega
                case rel => exact ⟨j + 1, by go_num, by omega, rfl, HB10⟩
            · clear p0 p1 pl q0 q1 ql
              obtain ⟨WB, hWB⟩ : ∃ W, W = wr := ⟨_, rfl⟩
              rw [← hWB] at B8 p00 p11 q00 q11 ⊢
              have p22 := cell_block p00
              have q22 := cell_block q00
              clear hWB
              have HWB : Hid (Below w.heap.size w WB) := by
                have b := H3.out.rn.bel.trans (H8.out.1.mono H3.out.rn.bel.size)
                exact b.trans (B8.out.mono b.size)
              have HAW : Hid (∀ W, Below WB.heap.size WB W → Calls Try.prog 7 #[] W fun e w' => e = .returned (.bool true) ∧ Below W.heap.size W w') := fun W _ => awake20_any W
              have HOWN' : Hid (∀ W, Below WB.heap.size WB W → Calls Try.prog 17 #[.pointer (some ⟨r, 0, none⟩)] W fun e w' => ∃ (g : Nat) (b : Option Addr) (c d : Nat), e = .returned (.agg #[.slice (some ⟨g, 0, none⟩) ringA.live.length c, .slice b ringA.live.length d]) ∧ Below W.heap.size W w' ∧
                  ∀ W', Below w'.heap.size w' W' → Calls Try.prog 18 #[.agg #[.slice (some ⟨g, 0, none⟩) ringA.live.length c, .slice b ringA.live.length d], .int .u64 (gkeyT a0)] W' fun e w9 => e = .returned (.int .i64 ro) ∧ Below W'.heap.size W' w9) := fun W hW => by
                have b := H8.out.1.trans (B8.out.mono H8.out.1.size)
                exact HOWN.out W (b.trans (hW.mono b.size))
              clear HOWN
              by_cases hx0 : xn = 0
              · have e0 : ((xn : Int) == 0) = true := by simp [hx0]
                clear hx0
                obtain ⟨ι, F, _, hF0, hFb, hFc⟩ := grown_fam WB
                have g0 : ∀ i, (F i).cell? ⟨qa, 0, none⟩ = _ := fun i => cell_grown p00 (hFb i)
                have HF : Hid ((∃ i, { WB with drawn := WB.drawn + 1 } = F i) ∧ (∀ i, Below WB.heap.size WB (F i)) ∧ (∀ i W, Below WB.heap.size (F i) W → ∃ j, W = F j)) := ⟨hF0, hFb, hFc⟩
                have HAF : Hid (∀ i, Calls Try.prog 7 #[] (F i) fun e w' => e = .returned (.bool true) ∧ ∃ k, w' = F k) := fun i =>
                  (awake20_any (F i)).mono (fun e w' z => ⟨z.1, hFc i w' (z.2.mono (hFb i).size)⟩)
                clear hF0 hFb hFc
                go_upto_region 23 with fail
                go_cut [4] (fun v wx => v = .bool true ∧ Hid (Below WB.heap.size WB wx))
                case first =>
                  refine wp_region_fam F HF.out.1 (by kernel_rfl) (by kernel_rfl) ?_
                  repeat (go_big_quiet_step ((go_at_call 7; exact HAF.out _)))
                  refine wpQuiet_nil ?_
                  rintro _ ⟨i, rfl⟩
                  have HB7 := HF.out.2.1 i
                  go_wp2
                  go_meet
                  exact ⟨rfl, HB7⟩
                case rest =>
                  rename World => W30
                  obtain ⟨rfl, HC⟩ := hcut
                  go_wp2
                  go_ret
                  exact ⟨rfl, HWB.out.trans (HC.out.mono HWB.out.size)⟩
              · have e0 : ((xn : Int) == 0) = false := by simp [hx0]
                obtain rfl : r2 = ro := by
                  have h1 := HTT.out.2.2.1.root
                  rw [if_neg (fun e => by have := HXL.out; rw [e] at this; simp at this; omega)] at h1
                  exact h1
                clear hx0
                go_upto_region 23 with fail
                go_region_held3 (fun W' => W'.cell? ⟨qa, 0, none⟩ = some (.int .i64 r2) ∧ W'.cell? ⟨qa, 1, none⟩ = some (.map (some g1)) ∧ W'.cell? ⟨qb, 0, none⟩ = some (.int .i64 r2) ∧ W'.cell? ⟨qb, 1, none⟩ = some (.map (some g2)))
                  (first
                    | go_keep
                    | assumption)
                  (first
                    | (go_at_call 7; refine Calls.mono (HAW.out _ ?_) ?_; first | exact BM.out | exact ⟨rfl, rfl, rfl, Nat.le_refl _, fun _ _ => rfl⟩
                       rintro e wM ⟨rfl, hM⟩
                       first | have hB' := BM.out.trans (hM.mono BM.out.size) | have hB' : Below WB.heap.size WB wM := ⟨hM.os, hM.tape, hM.output, hM.size, hM.block⟩
                       have BM : Hid (Below WB.heap.size WB wM) := hB'
                       have zm0 := cell_grown p00 hB'
                       have zm1 := cell_grown p11 hB'
                       have zm2 := cell_grown q00 hB'
                       have zm3 := cell_grown q11 hB'
                       have zml := cell_block zm0
                       have zmk := cell_block zm2
                       clear hM hB')
                    | (go_at_call 17; refine Calls.mono (HOWN'.out _ ?_) ?_; first | exact BM.out | exact ⟨rfl, rfl, rfl, Nat.le_refl _, fun _ _ => rfl⟩
                       rintro e wM ⟨g, b, c, d, rfl, hM, hOw⟩
                       have HOW : Hid _ := hOw
                       first | have hB' := BM.out.trans (hM.mono BM.out.size) | have hB' : Below WB.heap.size WB wM := ⟨hM.os, hM.tape, hM.output, hM.size, hM.block⟩
                       have BM : Hid (Below WB.heap.size WB wM) := hB'
                       have zm0 := cell_grown p00 hB'
                       have zm1 := cell_grown p11 hB'
                       have zm2 := cell_grown q00 hB'
                       have zm3 := cell_grown q11 hB'
                       have zml := cell_block zm0
                       have zmk := cell_block zm2
                       clear hM hB' hOw)
                    | (go_at_call 19; refine (gkey_t a0 _ (by omega)).mono ?_; rintro e w' ⟨rfl, hw'⟩; subst w')
                    | (go_at_call 18; refine Calls.mono (HOW.out _ (Below.refl _ _)) ?_
                       rintro e wM ⟨rfl, hM⟩
                       first | have hB' := BM.out.trans (hM.mono BM.out.size) | have hB' : Below WB.heap.size WB wM := ⟨hM.os, hM.tape, hM.output, hM.size, hM.block⟩
                       have BM : Hid (Below WB.heap.size WB wM) := hB'
                       have zm0 := cell_grown p00 hB'
                       have zm1 := cell_grown p11 hB'
                       have zm2 := cell_grown q00 hB'
                       have zm3 := cell_grown q11 hB'
                       have zml := cell_block zm0
                       have zmk := cell_block zm2
                       clear hM hB'))
                all_goals
                  go_wp2
                  go_ret
                  exact ⟨ret_b (by simp), HWB.out.trans (BM.out.mono HWB.out.size)⟩

/-! ### The row's step -/
set_option maxRecDepth 100000 in
theorem lifted (os : Os) (started : os.Started) (H : Type) (enc : TypeId × Value → H) :
    ReturnsInHanded {} Try.checked os 4 .any (Rows.treeOrderSpec.pre6 enc Try.prog Try.f4 Rows.treeOrderRow.domain false) (Rows.treeOrderSpec.post enc Try.prog Try.f4 false true false false) := by
  refine returnsInHanded_of_change (C := Try.checked) own started (by kernel_rfl) Try.func4
    (ChangeSpec.witness6 (enc := enc) (C := Try.checked) false ⟨#[], #[.string ByteArray.empty, .slice none 0 0], []⟩ 8 (by kernel_rfl) (by kernel_rfl) (by kernel_rfl) (by kernel_rfl)) ?_
  intro W base args ds gs before hval0 hW hcnd _
  have hval : ∀ (j : Nat) t v, Try.f4.params[j]? = some t → args[j]? = some v → Value.okWide Try.prog W .any base t v := hval0
  have hW' := hW
  obtain ⟨p, q, hA0, hV, rfl, hfz, hnd⟩ := hW
  have hA : DataW.TrodAll enc Try.prog W 0 (fun _ => true) true Try.f4.params.toList args.toList ds p := hA0
  rw [Try.params4] at hA hval
  obtain ⟨v0, vs0, d0, ds0, p0, q0, hargs, rfl, rfl, h0, r0⟩ := trodAll_cons hA
  obtain ⟨v1, vs1, d1, ds1, p1, q1, rfl, rfl, rfl, h1, r1⟩ := trodAll_cons r0
  obtain ⟨rfl, rfl, rfl⟩ := trodAll_nil r1
  obtain rfl : args = #[v0, v1] := by cases args; simp_all
  obtain ⟨rfl, rfl⟩ := trodVars_none hV
  obtain ⟨a0, rfl, rfl, rfl, w0⟩ := open_string Try.underlying9 (hval 0 9 v0 rfl rfl) h0
  obtain ⟨a1, len1, cap1, rfl⟩ := okWide_slice Try.underlying22 (hval 1 22 v1 rfl rfl)
  have k1 := h1
  have lt1 : ∀ x ∈ p1, x.block < W.heap.size := by obtain ⟨m, hm⟩ := k1; exact DataW.trod_lt m _ _ _ hm
  obtain ⟨t1, w1⟩ : ∃ ts, InRow 1 encI i64 0 W a1 len1 ts := by
    obtain ⟨fuel, hf⟩ := h1
    exact inrow_of 1 encI i64 0 22 3 Try.underlying22 cellsI1 (by omega) lenI (fun n cs x => int_of n cs x) hf
  clear hA0 hval0
  refine (walk a0 a1 len1 cap1 t1 W w0 w1).mono fun e W' ⟨he, bel⟩ => ?_
  subst he
  exact ⟨_, rfl, _, _, _, [], _, [], hW', trodAll_mk1 (shut_bool Try.underlying4 _), (trodAll_cons_mk (shut_string Try.underlying9 w0) (trodAll_cons_mk (Below.trod laidOut (by kernel_rfl) (of_decide_eq_true (by kernel_rfl)) k1 bel lt1) trodAll_mk0)), rfl, bel.frame _, fun h => by cases h⟩

theorem over : Rows.treeOrderRow.holds Try.pinned (OpenSpec.ofChange Rows.treeOrderSpec) :=
  OpenClaim.holds_of_wide 4 Try.f4 rfl rfl rfl rfl rfl rfl rfl ⟨rfl, rfl, rfl, rfl, rfl⟩ rfl rfl rfl rfl rfl (by kernel_rfl) Try.func4 (by kernel_rfl)
    (of_decide_eq_true (by kernel_rfl)) (by unfold Func.isWrapper; first | (rw [if_pos (by decide +kernel)]; kernel_rfl) | (rw [if_neg (by decide +kernel)]; exact ⟨rfl, rfl⟩))
    (fun os started H enc _ => lifted os started H enc)

end Go.Proofs.Ytkkkldglceiiiaa.treeOrder

namespace Go.Proofs.Ytkkkldglceiiiaa
/-- Proved: for every name and all members (names of more than 60 bytes and more than 12 members apart): of base members the tree doesn't hang on the order of its members, and its root is the owner of the group's key. -/
theorem treeOrder_holds : Rows.TreeOrderSaid := treeOrder.over
#print axioms treeOrder_holds
end Go.Proofs.Ytkkkldglceiiiaa
