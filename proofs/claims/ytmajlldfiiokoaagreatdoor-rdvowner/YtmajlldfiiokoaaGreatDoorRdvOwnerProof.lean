/- Proved: for every list of calls and every name (names of more than 60 bytes apart): of base members and any 12 that join a group has three keepers: the first one owns its key, and each next one is the next one's of the one ahead of it; errors.errorType being laid as the program's text lays it (the card's tie, over the pruned copy).
  The frame is the guide's own shell (proof-skeleton.mjs) at this function; the walk and all ahead of it are mine. -/
import Derived.Test.YtmajlldfiiokoaaGreatDoorRows
import Derived.Test.YtmajlldfiiokoaaGreatDoorChAct
import Derived.Test.YtmajlldfiiokoaaGreatDoorChAll
import Derived.Test.YtmajlldfiiokoaaGreatDoorJoinIdCat
import Derived.Test.YtmajlldfiiokoaaGreatDoorRdOwn
import Derived.Test.YtmajlldfiiokoaaGreatDoorJoinRdKeep
import Derived.Deep.RegionWith
import Derived.Deep.CutBlock
import Derived.Deep.DeepCutAuto
import Derived.Deep.LoopGhost
import Derived.Deep.RegionHeld3
import Derived.WalkKit
import Derived.WalkLawsBesides
import Derived.ProofKit
import Derived.OpenShut
import Derived.ChangeSame
import Derived.ChangeVars
import Derived.JoinedOf
import Derived.RowKit
import Derived.RowKitTokens
import Derived.LaidLaws
import Derived.LaidHandle
import Derived.Stop.Joined
import Derived.SevenTiedAt
import Derived.Test.YtmajlldfiiokoaaGreatDoorTie
import Derived.Test.YtmajlldfiiokoaaGreatDoorCards
import Derived.ShutString
import Derived.ChangeOld
import Derived.Below
namespace Go.Proofs.YtmajlldfiiokoaaGreatDoor.rdvOwner
open Go.ChangeShapes Go.WideShapes Go.ChangeAt Go.RowKit
open Go.ChangeMaps (open_string shut_string)
set_option linter.unusedVariables false

theorem own : ownKnob Tryz.prog.godebug = none := by kernel_rfl
theorem laidOut : laidOutB Tryz.prog = true := by kernel_rfl


theorem et : Tryz.prog.globalNamed "errors.errorType" = some 0 := by kernel_rfl
theorem rt : (Tryz.prog.cutTypes.find? (·.1 == "internal/reflectlite.rtype")).map (·.2) = some 259 := by kernel_rfl
theorem oneRow : ((List.range 332).filter fun t => Tryz.prog.rowNamed t [101, 114, 114, 111, 114]) = [45] := by kernel_rfl
theorem typesSize : Tryz.prog.types.size = 332 := by kernel_rfl
/-- What the tied variable gives a walk: its one cell. -/
theorem handle_of_laid {W : World} (h : laidMetH Tryz.prog Rows.rdvOwnerRow.laid W) : ErrType W := by
  have h' : laidMet Tryz.prog [] W ∧ handlesMet Tryz.prog Rows.rdvOwnerRow.laid W := h
  obtain ⟨name, u, ty, e1, e2, e3, e4, e5⟩ := h'.2 _ (List.mem_singleton.2 rfl)
  have en : name = [101, 114, 114, 111, 114] := (Option.some.inj e1).symm
  subst en
  obtain rfl := Option.some.inj (rt.symm.trans e2)
  have hm : ty ∈ (List.range 332).filter fun t => Tryz.prog.rowNamed t [101, 114, 114, 111, 114] := List.mem_filter.2 ⟨List.mem_range.2 (by rw [← typesSize]; exact e3), e4⟩
  rw [oneRow] at hm
  obtain rfl := List.mem_singleton.1 hm
  have hh : typeHandle Tryz.prog 45 = .pointer (some ⟨1, 45, none⟩) := by kernel_rfl
  rw [hh] at e5
  unfold ErrType
  simpa using World.var?_cell et e5 0

/-! ### STEP 1: the walk -/
set_option maxRecDepth 100000 in
set_option maxHeartbeats 20000000 in
theorem walk (a0 : Option Addr) (len0 cap0 : Nat) (t0 : List Ac10) (a1 : ByteArray) (w : World) (hE : ErrType w) (w0 : InRow 4 Ac10.cells Ac10.ok ac100 w a0 len0 t0) (w1 : a1.size ≤ maxLen) :
    Calls Tryz.prog 6 #[.slice a0 len0 cap0, .string a1] w fun e w' => e = .returned (.bool true) ∧ Below w.heap.size w w' := by
  have HT : Hid (AcIn w a0 len0 t0) := w0
  have hm1 := w0.2.1
  have z1 := w1
  unfold maxLen at z1
  clear w0 w1 hE
  go_enter Tryz.func6, Tryz.ntmps6
  go_wp2_with fail
  refine (base_r w).mono ?_
  rintro e w1 ⟨rfl, h1, b1⟩
  have HB1 : Hid (Below w.heap.size w w1) := b1
  have HMd : Hid _ := made_base _ _ h1
  clear h1 b1
  go_wp2_with fail
  refine Calls.mono HMd.out ?_
  clear HMd
  rintro e w3 ⟨r, gp, gkr, x0, x1, x2, x3, rfl, hsl, hrn, _⟩
  obtain ⟨⟨p0, p1, p2, rfl⟩, ⟨p3, p4, p5, rfl⟩, ⟨p6, p7, p8, rfl⟩, ⟨p9, p10, p11, rfl⟩⟩ := hsl
  obtain ⟨W4, hW4⟩ : ∃ W4, W4 = w3.alloc (.cells #[.slice p0 p1 p2, .slice p3 p4 p5, .slice p6 p7 p8, .slice p9 p10 p11] 32) := ⟨_, rfl⟩
  have H4 : Hid (∃ R, Rn w W4 r gp gkr R) := by
    have q := HB1.out.size
    refine ⟨ringA, Rn.below ⟨hrn.ring, hrn.inv, HB1.out.trans (hrn.bel.mono HB1.out.size), Nat.le_trans q hrn.gp, Nat.le_trans q hrn.gk⟩ ?_⟩
    rw [hW4]; exact below_one _ _
  clear hrn HB1
  go_upto_region 2 with fail
  rw [← hW4]
  clear hW4
  by_cases hbig : 60 < a1.size
  · go_cut [27] (fun v wx => v = .bool true ∧ wx = W4)
    case first =>
      go_wp2
      go_meet
      exact ⟨by simp; omega, rfl⟩
    case rest =>
      rename World => W5
      obtain ⟨rfl, hw5⟩ := hcut
      subst W5
      clear hbig
      obtain ⟨R, hR⟩ := H4.out
      have HR : Hid (Rn w W4 r gp gkr R) := hR
      clear hR
      go_wp2_with fail
      refine (awake21_any _).mono ?_
      rintro e w5 ⟨rfl, b5⟩
      go_wp2
      go_ret
      exact ⟨rfl, HR.out.bel.trans (b5.mono HR.out.bel.size)⟩
  · have hb0 : a1.size ≤ 60 := by omega
    clear hbig
    go_cut [27] (fun v wx => v = .bool false ∧ wx = W4)
    case first =>
      go_wp2
      go_meet
      exact ⟨by simp; omega, rfl⟩
    rename World => W5
    obtain ⟨rfl, hw5⟩ := hcut
    subst W5
    go_wp2
    go_loopg [8] len0 (fun kx s wr => ∃ k : Nat, s = .int .i64 k ∧ k ≤ len0 ∧ k ≤ 12 ∧ kx = len0 - k ∧ Hid (∃ R, Rn w wr r gp gkr R))
    case atStart => exact ⟨0, rfl, Nat.zero_le _, by omega, rfl, H4⟩
    case round =>
      obtain ⟨k, rfl, hk, hk12, rfl, HB⟩ := hrel
      clear H4
      obtain ⟨R, hS⟩ := HB.out
      have HS : Hid (Rn w wr r gp gkr R) := hS
      clear hS HB
      go_upto_region 5 with fail
      go_cut [39] (fun v wx => ∃ bb : Bool, v = .bool bb ∧ (bb = true ↔ k < len0 ∧ k < 12) ∧ wx = wr)
      case first =>
        by_cases h1 : (k : Int) < (len0 : Int)
        · by_cases h2 : (k : Int) < 12
          · go_wp2
            go_meet
            exact ⟨true, by simp, by simp; omega, rfl⟩
          · go_wp2
            go_meet
            exact ⟨false, by simp, by simp; omega, rfl⟩
        · go_wp2
          go_meet
          exact ⟨false, by simp, by simp; omega, rfl⟩
      rename World => Wq
      obtain ⟨bb, rfl, hbb, hwq⟩ := hcut
      subst Wq
      cases bb with
      | true =>
        obtain ⟨hlt, h120⟩ := hbb.1 rfl
        clear hbb
        have hkI : (0 : Int) ≤ (k : Int) ∧ (k : Int) < (len0 : Int) := by omega
        obtain ⟨b, o, rfl, hbl, hok, x0, x1, x2, x3⟩ := AcIn.at (HT.out.below (Nat.le_refl _) HS.out.bel) hlt
        generalize t0.getD k ac100 = t at hok x0 x1 x2 x3
        obtain ⟨kd, m, via, id⟩ := t
        have HO : Hid (Ac10.ok ⟨kd, m, via, id⟩) := hok
        clear hok
        simp only at x0 x1 x2 x3
        have HJ : Hid (∀ W, Below wr.heap.size wr W → Calls Tryz.prog 32 #[.pointer (some ⟨r, 0, none⟩), .int .i64 m, .int .u64 id, .int .i64 0] W fun e w' => (∃ ev, e = .returned ev) ∧ ∃ R', Rn w w' r gp gkr R') := fun W hW => by
          refine (join_r r gp gkr R m id 0 W (HS.out.ring.below hW) HO.out.2.2.2 (by simp [i64])).mono ?_
          rintro e w5 ⟨rfl, h5, k5⟩
          exact ⟨⟨_, rfl⟩, _, (HS.out.below hW).step h5 (HS.out.inv.join m id 0 HO.out.2.2.2) k5⟩
        go_upto_region 7 with fail
        go_region_law
          ((go_simp; go_at_call 32; refine Calls.mono (HJ.out _ (by first | exact ⟨rfl, rfl, rfl, Nat.le_refl _, fun _ _ => rfl⟩)) ?_; rintro e w9 ⟨⟨ev, rfl⟩, h9⟩))
        all_goals (try go_wp2_with fail)
        all_goals (go_roundg (len0 - (k + 1)))
        all_goals (try (case measure => omega))
        all_goals (try (case rel => exact ⟨k + 1, by go_num, by omega, by omega, rfl, h9⟩))
      | false =>
        clear hbb
        go_wp2_with fail
        refine (of_c r gp gkr R _ HS.out.ring HS.out.inv).mono ?_
        rintro e w5 ⟨C, g, b, c, d, n, rfl, hc, hnl, b5⟩
        clear hnl
        obtain ⟨W6, hW6⟩ : ∃ W6, W6 = w5.alloc (.cells #[.slice (some ⟨g, 0, none⟩) n c, .slice b n d] 50) := ⟨_, rfl⟩
        obtain ⟨q, hq⟩ : ∃ q, q = w5.heap.size := ⟨_, rfl⟩
        have b6 : Below w5.heap.size w5 W6 := by rw [hW6]; exact below_one _ _
        have d0 : W6.cell? ⟨q, 0, none⟩ = some (.slice (some ⟨g, 0, none⟩) n c) := by rw [hW6, hq]; exact World.cell?_alloc_new ..
        have d1 : W6.cell? ⟨q, 1, none⟩ = some (.slice b n d) := by rw [hW6, hq]; simp
        have H6 : Hid (CAt W6 R C g c d n b ∧ Below w.heap.size w W6) := by
          have z1 := HS.out.bel.trans (b5.mono HS.out.bel.size)
          exact ⟨hc.below b6, z1.trans (b6.mono z1.size)⟩
        have dl := cell_block d0
        obtain ⟨ko, hko, hkn⟩ := hc.own a1
        have HK : Hid (ownerN (C.map R.idOf) (gkeyT a1) = (ko : Int) ∧ ko < n) := ⟨hko, hkn⟩
        clear hc hko hkn b5 b6
        go_upto_region 9 with fail
        rw [← hW6]
        try rw [← hq]
        clear hW6 hq
        have HKC : Hid _ := keepers_c H6.out.1 a1 HK.out.1 HK.out.2 (by omega)
        go_wp2_with fail
        refine Calls.mono HKC.out ?_
        clear HKC
        rintro e w7 ⟨⟨ka, kc, rfl, hin⟩, b7⟩
        have hlC := H6.out.1.len
        have hn4 := H6.out.1.n4
        obtain ⟨mb, mo, hmb, hml, _, hm0⟩ := hin.one (v := Value.int .i64) (fun _ => rfl) (i := 0) (by omega)
        obtain ⟨mb1, mo1, hmb1, _, _, hm1c⟩ := hin.one (v := Value.int .i64) (fun _ => rfl) (i := 1) (by omega)
        obtain ⟨mb2, mo2, hmb2, _, _, hm2⟩ := hin.one (v := Value.int .i64) (fun _ => rfl) (i := 2) (by omega)
        subst hmb
        simp at hmb1 hmb2
        obtain ⟨rfl, rfl⟩ := hmb1
        obtain ⟨rfl, rfl⟩ := hmb2
        rw [keepL_one C ko 0 (by have := HK.out.2; omega) (by omega) (by omega), Nat.add_zero, Nat.add_zero, Nat.mod_eq_of_lt (by have := HK.out.2; omega)] at hm0
        rw [keepL_one C ko 1 (by have := HK.out.2; omega) (by omega) (by omega)] at hm1c
        rw [keepL_one C ko 2 (by have := HK.out.2; omega) (by omega) (by omega)] at hm2
        obtain ⟨k1, hk1⟩ : ∃ k1, k1 = (ko + 1) % C.length := ⟨_, rfl⟩
        obtain ⟨k2, hk2⟩ : ∃ k2, k2 = (ko + 2) % C.length := ⟨_, rfl⟩
        rw [← hk1] at hm1c
        rw [← hk2] at hm2
        have hs1 : (idPe R C ko).succ.getD 0 0 = C.getD k1 0 := by rw [succ_one R C ko 0 (by have := HK.out.2; omega) (by omega) (by omega), hk1]
        have hs2 : (idPe R C k1).succ.getD 0 0 = C.getD k2 0 := by
          rw [succ_one R C k1 0 (by rw [hk1]; exact Nat.mod_lt _ (by omega)) (by omega) (by omega), hk1, hk2]
          congr 1
          rw [Nat.add_zero, Nat.mod_add_mod]
        have HSU : Hid ((idPe R C ko).succ.getD 0 0 = C.getD k1 0 ∧ (idPe R C k1).succ.getD 0 0 = C.getD k2 0 ∧ k1 < n) := ⟨hs1, hs2, by rw [hk1, ← hlC]; exact Nat.mod_lt _ (by omega)⟩
        obtain ⟨y0, hy0⟩ : ∃ y, y = C.getD ko 0 := ⟨_, rfl⟩
        obtain ⟨y1, hy1⟩ : ∃ y, y = C.getD k1 0 := ⟨_, rfl⟩
        obtain ⟨y2, hy2⟩ : ∃ y, y = C.getD k2 0 := ⟨_, rfl⟩
        rw [← hy0] at hm0
        rw [← hy1] at hm1c
        rw [← hy2] at hm2
        have HY : Hid (y0 = C.getD ko 0 ∧ y1 = C.getD k1 0 ∧ y2 = C.getD k2 0) := ⟨hy0, hy1, hy2⟩
        have H7 : Hid (CAt w7 R C g c d n b ∧ Below w.heap.size w w7 ∧ w7.cell? ⟨q, 0, none⟩ = some (.slice (some ⟨g, 0, none⟩) n c) ∧ w7.cell? ⟨q, 1, none⟩ = some (.slice b n d) ∧ w7.cell? ⟨mb, mo, none⟩ = some (.int .i64 y0) ∧ w7.cell? ⟨mb, mo + 1, none⟩ = some (.int .i64 y1) ∧ w7.cell? ⟨mb, mo + 2, none⟩ = some (.int .i64 y2)) := ⟨H6.out.1.below b7, H6.out.2.trans (b7.mono H6.out.2.size), cell_grown d0 b7, cell_grown d1 b7, hm0, hm1c, hm2⟩
        clear hin b7 d0 d1 dl hk1 hk2 hs1 hs2 hy0 hy1 hy2 HS H6 hml hm0 hm1c hm2 hlC hn4
        obtain ⟨ι, F, _, hF0, hFb, hFc⟩ := grown_fam w7
        have g0 : ∀ i, (F i).cell? ⟨q, 0, none⟩ = _ := fun i => cell_grown H7.out.2.2.1 (hFb i)
        have g1 : ∀ i, (F i).cell? ⟨q, 1, none⟩ = _ := fun i => cell_grown H7.out.2.2.2.1 (hFb i)
        have g2 : ∀ i, (F i).cell? ⟨mb, mo, none⟩ = _ := fun i => cell_grown H7.out.2.2.2.2.1 (hFb i)
        have HF : Hid ((∃ i, { w7 with drawn := w7.drawn + 1 } = F i) ∧ (∀ i, Below w7.heap.size w7 (F i))) := ⟨hF0, hFb⟩
        have HFK : Hid (∀ i, Calls Tryz.prog 34 #[.string a1] (F i) fun e w' => e = .returned (.int .u64 (gkeyT a1)) ∧ ∃ k, w' = F k) := fun i =>
          (gkey_t a1 (F i) (by omega)).mono (fun e w' z => ⟨z.1, i, z.2⟩)
        have HFO : Hid (∀ i, Calls Tryz.prog 33 #[.agg #[.slice (some ⟨g, 0, none⟩) n c, .slice b n d], .int .u64 (gkeyT a1)] (F i) fun e w' => e = .returned (.int .i64 y0) ∧ ∃ k, w' = F k) := fun i =>
          (cowner_c (H7.out.1.below (hFb i)) (gkeyT a1) ko HK.out.1 HK.out.2).mono (fun e w' z => ⟨by rw [z.1, HY.out.1], hFc i w' (z.2.mono (hFb i).size)⟩)
        clear hF0 hFb hFc
        go_upto_region 10 with fail
        go_cut [71] (fun v wx => v = .bool false ∧ Hid (Below w7.heap.size w7 wx))
        case first =>
          refine wp_region_fam F HF.out.1 (by kernel_rfl) (by kernel_rfl) ?_
          repeat (go_big_quiet_step (first
            | (go_at_call 34; exact HFK.out _)
            | (go_at_call 33; exact HFO.out _)))
          refine wpQuiet_nil ?_
          rintro _ ⟨i, rfl⟩
          have HB7 := HF.out.2 i
          go_wp2
          go_meet
          exact ⟨by simp, HB7⟩
        case rest =>
          rename World => w8
          obtain ⟨rfl, HB8⟩ := hcut
          clear g0 g1 g2 HF HFK HFO
          have H8 : Hid (CAt w8 R C g c d n b ∧ Below w.heap.size w w8 ∧ w8.cell? ⟨q, 0, none⟩ = some (.slice (some ⟨g, 0, none⟩) n c) ∧ w8.cell? ⟨q, 1, none⟩ = some (.slice b n d) ∧ w8.cell? ⟨mb, mo, none⟩ = some (.int .i64 y0) ∧ w8.cell? ⟨mb, mo + 1, none⟩ = some (.int .i64 y1) ∧ w8.cell? ⟨mb, mo + 2, none⟩ = some (.int .i64 y2)) := ⟨H7.out.1.below HB8.out, H7.out.2.1.trans (HB8.out.mono H7.out.2.1.size), cell_grown H7.out.2.2.1 HB8.out, cell_grown H7.out.2.2.2.1 HB8.out, cell_grown H7.out.2.2.2.2.1 HB8.out, cell_grown H7.out.2.2.2.2.2.1 HB8.out, cell_grown H7.out.2.2.2.2.2.2 HB8.out⟩
          have HP : Hid (∀ W, Below w8.heap.size w8 W → Calls Tryz.prog 35 #[.agg #[.slice (some ⟨g, 0, none⟩) n c, .slice b n d], .int .i64 y0] W fun e w' => ∃ a2 c2, e = .returned (.tuple #[.agg #[.int .u64 (idPe R C ko).id, .int .i64 (idPe R C ko).pred, .slice a2 3 c2], .bool true]) ∧ InIn w' a2 3 (idPe R C ko).succ ∧ Below w8.heap.size w8 w' ∧ Below W.heap.size W w') := fun W hW => by
            rw [HY.out.1]
            refine (cpeer_c (H8.out.1.below hW) ko HK.out.2).mono ?_
            rintro e w' ⟨a2, c2, he, h2, _, b2⟩
            exact ⟨a2, c2, he, h2, hW.trans (b2.mono hW.size), b2⟩
          have d0 := H8.out.2.2.1
          have d1 := H8.out.2.2.2.1
          have dl := cell_block d0
          have m0 := H8.out.2.2.2.2.1
          have ml := cell_block m0
          clear H7 HB8
          obtain ⟨pid, hpid⟩ : ∃ x, x = (idPe R C ko).id := ⟨_, rfl⟩
          obtain ⟨ppr, hppr⟩ : ∃ x, x = (idPe R C ko).pred := ⟨_, rfl⟩
          rw [← hpid, ← hppr] at HP
          clear hpid hppr
          go_upto_region 12 with fail
          go_cut [11, 12] (fun p v wx => ∃ q1 a2 c2, p = .pointer (some ⟨q1, 0, none⟩) ∧ v = .bool true ∧ Hid (PcI w8 wx q1 pid ppr a2 c2 (idPe R C ko).succ))
          case first =>
            go_region_law
              ((go_simp; go_at_call 35; refine Calls.mono (HP.out _ (by first | exact ⟨rfl, rfl, rfl, Nat.le_refl _, fun _ _ => rfl⟩ | exact ⟨rfl, rfl, rfl, by simp, fun k hk => Below.heap_alloc _ _ k hk⟩)) ?_; rintro e w9 ⟨a2, c2, rfl, h9, b9, b9'⟩
                try
                  have hz : w9.heap[w8.heap.size]? = some (.cells #[.int .u64 0, .int .i64 0, .slice none 0 0] 80 (0, 0)) := (b9'.block w8.heap.size (by simp)).trans (heap_alloc_new _ _)
                  obtain ⟨s0, s1, s2, sl⟩ := c3_block hz
                  have f0 := fz_block hz 0
                  have f1 := fz_block hz 1
                  have f2 := fz_block hz 2))
            all_goals (try go_wp2_with fail)
            all_goals go_meet
            all_goals first
              | (have hz1 := hz; exact ⟨_, a2, c2, rfl, rfl, PcI.b h9 b9 (Nat.le_refl _) hz1⟩)
              | exact ⟨_, a2, c2, rfl, rfl, PcI.a h9 b9⟩
          case rest =>
            rename World => w10
            obtain ⟨q1, a2, c2, rfl, rfl, HPC⟩ := hcut
            clear HP d0 d1 dl m0 ml
            have H10 : Hid (CAt w10 R C g c d n b ∧ Below w.heap.size w w10 ∧ w10.cell? ⟨q, 0, none⟩ = some (.slice (some ⟨g, 0, none⟩) n c) ∧ w10.cell? ⟨q, 1, none⟩ = some (.slice b n d) ∧ w10.cell? ⟨mb, mo + 1, none⟩ = some (.int .i64 y1) ∧ w10.cell? ⟨mb, mo + 2, none⟩ = some (.int .i64 y2)) := ⟨H8.out.1.below HPC.out.bel, H8.out.2.1.trans (HPC.out.bel.mono H8.out.2.1.size), cell_grown H8.out.2.2.1 HPC.out.bel, cell_grown H8.out.2.2.2.1 HPC.out.bel, cell_grown H8.out.2.2.2.2.2.1 HPC.out.bel, cell_grown H8.out.2.2.2.2.2.2 HPC.out.bel⟩
            have HQ : Hid (w10.heap[q1]? = some (.cells #[.int .u64 pid, .int .i64 ppr, .slice a2 3 c2] 80 (0, 0)) ∧ InIn w10 a2 3 (idPe R C ko).succ) := ⟨HPC.out.box, HPC.out.row⟩
            have HP : Hid (∀ W, Below w10.heap.size w10 W → Calls Tryz.prog 35 #[.agg #[.slice (some ⟨g, 0, none⟩) n c, .slice b n d], .int .i64 y1] W fun e w' => ∃ a2 c2, e = .returned (.tuple #[.agg #[.int .u64 (idPe R C k1).id, .int .i64 (idPe R C k1).pred, .slice a2 3 c2], .bool true]) ∧ InIn w' a2 3 (idPe R C k1).succ ∧ Below w10.heap.size w10 w' ∧ Below W.heap.size W w') := fun W hW => by
              rw [HY.out.2.1]
              refine (cpeer_c (H10.out.1.below hW) k1 HSU.out.2.2).mono ?_
              rintro e w' ⟨a2, c2, he, h2, _, b2⟩
              exact ⟨a2, c2, he, h2, hW.trans (b2.mono hW.size), b2⟩
            have d0 := H10.out.2.2.1
            have d1 := H10.out.2.2.2.1
            have dl := cell_block d0
            have m0 := H10.out.2.2.2.2.1
            have ml := cell_block m0
            clear H8 HPC
            obtain ⟨pid2, hpid⟩ : ∃ x, x = (idPe R C k1).id := ⟨_, rfl⟩
            obtain ⟨ppr2, hppr⟩ : ∃ x, x = (idPe R C k1).pred := ⟨_, rfl⟩
            rw [← hpid, ← hppr] at HP
            clear hpid hppr
            go_upto_region 13 with fail
            go_cut [13, 14] (fun p v wx => ∃ q2 a3 c3, p = .pointer (some ⟨q2, 0, none⟩) ∧ v = .bool true ∧ Hid (PcI w10 wx q2 pid2 ppr2 a3 c3 (idPe R C k1).succ))
            case first =>
              go_region_law
                ((go_simp; go_at_call 35; refine Calls.mono (HP.out _ (by first | exact ⟨rfl, rfl, rfl, Nat.le_refl _, fun _ _ => rfl⟩ | exact ⟨rfl, rfl, rfl, by simp, fun k hk => Below.heap_alloc _ _ k hk⟩)) ?_; rintro e w9 ⟨a3, c3, rfl, h9, b9, b9'⟩
                  try
                    have hz : w9.heap[w10.heap.size]? = some (.cells #[.int .u64 0, .int .i64 0, .slice none 0 0] 80 (0, 0)) := (b9'.block w10.heap.size (by simp)).trans (heap_alloc_new _ _)
                    obtain ⟨s0, s1, s2, sl⟩ := c3_block hz
                    have f0 := fz_block hz 0
                    have f1 := fz_block hz 1
                    have f2 := fz_block hz 2))
              all_goals (try go_wp2_with fail)
              all_goals go_meet
              all_goals first
                | (have hz1 := hz; exact ⟨_, a3, c3, rfl, rfl, PcI.b h9 b9 (Nat.le_refl _) hz1⟩)
                | exact ⟨_, a3, c3, rfl, rfl, PcI.a h9 b9⟩
            case rest =>
              rename World => w11
              obtain ⟨q2, a3, c3, rfl, rfl, HPC⟩ := hcut
              clear HP d0 d1 dl m0 ml
              obtain ⟨eb, eo, heb, hel, _, he0⟩ := (HQ.out.2.below (Nat.le_refl _) HPC.out.bel).one (v := Value.int .i64) (fun _ => rfl) (i := 0) (by omega)
              obtain ⟨fb, fo, hfb, hfl, _, hf0⟩ := HPC.out.row.one (v := Value.int .i64) (fun _ => rfl) (i := 0) (by omega)
              subst heb
              subst hfb
              rw [HSU.out.1, ← HY.out.2.1, Nat.add_zero] at he0
              rw [HSU.out.2.1, ← HY.out.2.2, Nat.add_zero] at hf0
              have u2 : w11.cell? ⟨q1, 2, none⟩ = some (.slice (some ⟨eb, eo, none⟩) 3 c2) := cell_grown (by simp [World.cell?, HQ.out.1]) HPC.out.bel
              have v2 : w11.cell? ⟨q2, 2, none⟩ = some (.slice (some ⟨fb, fo, none⟩) 3 c3) := by simp [World.cell?, HPC.out.box]
              have HB11 : Hid (Below w.heap.size w w11) := H10.out.2.1.trans (HPC.out.bel.mono H10.out.2.1.size)
              have n1 := cell_grown H10.out.2.2.2.2.1 HPC.out.bel
              have n2 := cell_grown H10.out.2.2.2.2.2 HPC.out.bel
              clear HQ HPC H10 hel hfl
              obtain ⟨ι, F, _, hF0, hFb, hFc⟩ := grown_fam w11
              have g0 : ∀ i, (F i).cell? ⟨q1, 2, none⟩ = _ := fun i => cell_grown u2 (hFb i)
              have g1 : ∀ i, (F i).cell? ⟨q2, 2, none⟩ = _ := fun i => cell_grown v2 (hFb i)
              have g2 : ∀ i, (F i).cell? ⟨eb, eo, none⟩ = _ := fun i => cell_grown he0 (hFb i)
              have g3 : ∀ i, (F i).cell? ⟨fb, fo, none⟩ = _ := fun i => cell_grown hf0 (hFb i)
              have g4 : ∀ i, (F i).cell? ⟨mb, mo + 1, none⟩ = _ := fun i => cell_grown n1 (hFb i)
              have g5 : ∀ i, (F i).cell? ⟨mb, mo + 2, none⟩ = _ := fun i => cell_grown n2 (hFb i)
              have HF : Hid ((∃ i, { w11 with drawn := w11.drawn + 1 } = F i) ∧ (∀ i, Below w11.heap.size w11 (F i))) := ⟨hF0, hFb⟩
              have HFA : Hid (∀ i, Calls Tryz.prog 23 #[] (F i) fun e w' => e = .returned (.bool true) ∧ ∃ k, w' = F k) := fun i =>
                (awake21_any (F i)).mono (fun e w' z => ⟨z.1, hFc i w' (z.2.mono (hFb i).size)⟩)
              clear hF0 hFb hFc u2 v2 he0 hf0 n1 n2
              go_upto_region 14 with fail
              refine wp_region_fam F HF.out.1 (by kernel_rfl) (by kernel_rfl) ?_
              repeat (go_big_quiet_step (first
                | (go_at_call 23; exact HFA.out _)))
              refine wpQuiet_nil ?_
              rintro _ ⟨i, rfl⟩
              have HB12 := HF.out.2 i
              go_wp2
              go_ret
              exact ⟨by first | rfl | simp, HB11.out.trans (HB12.mono HB11.out.size)⟩

/-! ### The row's step -/
set_option maxRecDepth 100000 in
theorem lifted (os : Os) (started : os.Started) (H : Type) (enc : TypeId × Value → H) :
    ReturnsInHanded {} Tryz.checked os 6 .any (fun w args => (Rows.rdvOwnerSpec.pre enc Tryz.prog Tryz.f6 [] false w args ∧ laidMetH Tryz.prog Rows.rdvOwnerRow.laid w) ∧ sizedMet enc Tryz.prog Tryz.f6 (OpenSpec.ofChange Rows.rdvOwnerSpec) false w args) (Rows.rdvOwnerSpec.post enc Tryz.prog Tryz.f6 false true false false) := by
  refine returnsInHanded_of_change_and (C := Tryz.checked) (X := fun w _ => laidMetH Tryz.prog Rows.rdvOwnerRow.laid w) (fun _ _ _ hh h => h.of_heap hh) own started (by kernel_rfl) Tryz.func6
    (ChangeSpec.witness_at (enc := enc) (C := Tryz.checked) (os := os) (X := fun w _ => laidMetH Tryz.prog Rows.rdvOwnerRow.laid w) false ({ World.holding Tryz.prog os ⟨#[], #[], []⟩ with heap := (World.holding Tryz.prog os ⟨#[], #[], []⟩).heap.modify 0 fun | .cells _ t frozen => .cells #[.iface 259 (.agg #[.pointer (some ⟨1, 45, none⟩)])] t frozen | o => o }) #[.slice none 0 0, .string ByteArray.empty] 8 rfl (by kernel_rfl) (by kernel_rfl) (by kernel_rfl) (by kernel_rfl) (by kernel_rfl) (laidMetH_of_parts (laidMet_nil _ _) (by kernel_rfl))) ?_
  intro W base args ds gs before hval0 hW _ _ hL _
  have hval : ∀ (j : Nat) t v, Tryz.f6.params[j]? = some t → args[j]? = some v → Value.okWide Tryz.prog W .any base t v := hval0
  have hW' := hW
  obtain ⟨p, q, hA0, hV, rfl, hfz, hnd⟩ := hW
  have hA : DataW.TrodAll enc Tryz.prog W 0 (fun _ => true) true Tryz.f6.params.toList args.toList ds p := hA0
  rw [Tryz.params6] at hA hval
  obtain ⟨v0, vs0, d0, ds0, p0, q0, hargs, rfl, rfl, h0, r0⟩ := trodAll_cons hA
  obtain ⟨v1, vs1, d1, ds1, p1, q1, rfl, rfl, rfl, h1, r1⟩ := trodAll_cons r0
  obtain ⟨rfl, rfl, rfl⟩ := trodAll_nil r1
  obtain rfl : args = #[v0, v1] := by cases args; simp_all
  obtain ⟨rfl, rfl⟩ := trodVars_none hV
  obtain ⟨a0, len0, cap0, rfl⟩ := okWide_slice Tryz.underlying23 (hval 0 23 v0 rfl rfl)
  have k0 := h0
  have lt0 : ∀ x ∈ p0, x.block < W.heap.size := by obtain ⟨m, hm⟩ := k0; exact DataW.trod_lt m _ _ _ hm
  obtain ⟨t0, w0⟩ : ∃ ts, InRow 4 Ac10.cells Ac10.ok ac100 W a0 len0 ts := by
    obtain ⟨fuel, hf⟩ := h0
    exact inrow_of 4 Ac10.cells Ac10.ok ac100 23 61 Tryz.underlying23 cellsAc10 (by omega) lenAc10 (fun n cs x => ac10_of n cs x) hf
  obtain ⟨a1, rfl, rfl, rfl, w1⟩ := open_string Tryz.underlying9 (hval 1 9 v1 rfl rfl) h1
  clear hA0 hval0
  have hE := handle_of_laid hL
  refine (walk a0 len0 cap0 t0 a1 W hE w0 w1).mono fun e W' ⟨he, bel⟩ => ?_
  subst he
  exact ⟨_, rfl, _, _, _, [], _, [], hW', trodAll_mk1 (shut_bool Tryz.underlying4 _), (trodAll_cons_mk (Below.trod laidOut (by kernel_rfl) (of_decide_eq_true (by kernel_rfl)) k0 bel lt0) (trodAll_cons_mk (shut_string Tryz.underlying9 w1) trodAll_mk0)), rfl, bel.frame _, fun h => by cases h⟩

theorem over : Rows.rdvOwnerRow.holds Tryz.pinned (OpenSpec.ofChange Rows.rdvOwnerSpec) :=
  OpenClaim.holds_of_wide 6 Tryz.f6 rfl rfl rfl rfl rfl rfl rfl ⟨rfl, rfl, rfl, rfl, rfl⟩ rfl rfl rfl rfl rfl (by kernel_rfl) Tryz.func6 (by kernel_rfl)
    (of_decide_eq_true (by kernel_rfl)) (by unfold Func.isWrapper; first | (rw [if_pos (by decide +kernel)]; kernel_rfl) | (rw [if_neg (by decide +kernel)]; exact ⟨rfl, rfl⟩))
    (fun os started H enc _ => lifted os started H enc)

theorem card : Rows.RdvOwnerCardSaid :=
  Claim7.holds_tied_plain_at .later [] [.handle] true (true, "a510ebdd746ea4e7bc88118e1607cd1f97c2f7db3547122bd42d2837063a2fe1") true
    over (fun _ h => by cases h) (by kernel_rfl) (fun _ h => by cases h) rdvOwner_row_tie rfl ⟨rfl, rfl⟩ (by kernel_rfl) rfl
    (fun f fn hf hfn => by
      obtain rfl : f = 6 := Option.some.inj ((show Tryz.prog.funcNamed "wigwag/wigwaglaw21.RdvOwner" = some 6 by kernel_rfl).symm.trans hf) |>.symm
      obtain rfl : fn = Tryz.f6 := (Option.some.inj (Tryz.func6.symm.trans hfn)).symm
      exact ⟨by kernel_rfl, fun j t ht => by
        rw [Tryz.params6] at ht
        have hall : ∀ t ∈ ([23, 9] : List TypeId), Tryz.prog.wantsStandIn t = false := by
          intro t ht
          simp only [List.mem_cons, List.not_mem_nil, or_false] at ht
          rcases ht with rfl | rfl <;> kernel_rfl
        exact hall t (by simpa using List.mem_of_getElem? (l := ([23, 9] : List TypeId)) (i := j) (by simpa using ht))⟩)
    (by kernel_rfl)

end Go.Proofs.YtmajlldfiiokoaaGreatDoor.rdvOwner

namespace Go.Proofs.YtmajlldfiiokoaaGreatDoor
/-- Proved: for every list of calls and every name (names of more than 60 bytes apart): of base members and any 12 that join a group has three keepers: the first one owns its key, and each next one is the next one's of the one ahead of it; errors.errorType being laid as the program's text lays it (the card's tie, over the pruned copy). -/
theorem rdvOwner_holds : Rows.RdvOwnerCardSaid := rdvOwner.card
#print axioms rdvOwner_holds
end Go.Proofs.YtmajlldfiiokoaaGreatDoor
