/- Proved: for every list of places, every list of calls, every place and every number: behind any 40 calls what all should know, whose any place is, any finger, and whether it is so, are as the document says; errors.errorType being laid as the program's text lays it (the card's tie, over the pruned copy).
  The frame is the guide's own shell (proof-skeleton.mjs) at this function; the walk and all ahead of it are mine. -/
import Derived.Test.YtgiiadjocfnhlaaGreatDoorRows
import Derived.Test.YtgiiadjocfnhlaaGreatDoorJoinPrInts
import Derived.Test.YtgiiadjocfnhlaaGreatDoorJoinPeSame
import Derived.Test.YtgiiadjocfnhlaaGreatDoorRfM
import Derived.Test.YtgiiadjocfnhlaaGreatDoorInCap
import Derived.Test.YtgiiadjocfnhlaaGreatDoorIdCirc
import Derived.Test.YtgiiadjocfnhlaaGreatDoorIdOwn
import Derived.Test.YtgiiadjocfnhlaaGreatDoorJoinChPlay
import Derived.Deep.CutBlock
import Derived.Deep.DeepCutAuto
import Derived.Deep.LoopGhost
import Derived.Deep.RegionHeld3
import Derived.WalkKit
import Derived.WalkLawsBesides
import Derived.ProofKit
import Derived.OpenShut
import Derived.ChangeSame
import Derived.ChangeVars
import Derived.JoinedOf
import Derived.RowKit
import Derived.RowKitTokens
import Derived.LaidLaws
import Derived.LaidHandle
import Derived.Stop.Joined
import Derived.SevenTiedAt
import Derived.Test.YtgiiadjocfnhlaaGreatDoorTie
import Derived.Test.YtgiiadjocfnhlaaGreatDoorCards
import Derived.ShutString
import Derived.ChangeOld
import Derived.Below
namespace Go.Proofs.YtgiiadjocfnhlaaGreatDoor.idealKnows
open Go.ChangeShapes Go.WideShapes Go.ChangeAt Go.RowKit
open Go.ChangeMaps (open_string shut_string)
set_option linter.unusedVariables false

theorem own : ownKnob Tryz.prog.godebug = none := by kernel_rfl
theorem laidOut : laidOutB Tryz.prog = true := by kernel_rfl


theorem et : Tryz.prog.globalNamed "errors.errorType" = some 0 := by kernel_rfl
theorem rt : (Tryz.prog.cutTypes.find? (·.1 == "internal/reflectlite.rtype")).map (·.2) = some 148 := by kernel_rfl
theorem oneRow : ((List.range 222).filter fun t => Tryz.prog.rowNamed t [101, 114, 114, 111, 114]) = [26] := by kernel_rfl
theorem typesSize : Tryz.prog.types.size = 222 := by kernel_rfl
/-- What the tied variable gives a walk: its one cell. -/
theorem handle_of_laid {W : World} (h : laidMetH Tryz.prog Rows.idealKnowsRow.laid W) : ErrType W := by
  have h' : laidMet Tryz.prog [] W ∧ handlesMet Tryz.prog Rows.idealKnowsRow.laid W := h
  obtain ⟨name, u, ty, e1, e2, e3, e4, e5⟩ := h'.2 _ (List.mem_singleton.2 rfl)
  have en : name = [101, 114, 114, 111, 114] := (Option.some.inj e1).symm
  subst en
  obtain rfl := Option.some.inj (rt.symm.trans e2)
  have hm : ty ∈ (List.range 222).filter fun t => Tryz.prog.rowNamed t [101, 114, 114, 111, 114] := List.mem_filter.2 ⟨List.mem_range.2 (by rw [← typesSize]; exact e3), e4⟩
  rw [oneRow] at hm
  obtain rfl := List.mem_singleton.1 hm
  have hh : typeHandle Tryz.prog 26 = .pointer (some ⟨1, 26, none⟩) := by kernel_rfl
  rw [hh] at e5
  unfold ErrType
  simpa using World.var?_cell et e5 0

/-! ### STEP 1: the walk -/
set_option maxRecDepth 100000 in
set_option maxHeartbeats 20000000 in
theorem walk (a0 : Option Addr) (len0 cap0 : Nat) (t0 : List Int) (a1 : Option Addr) (len1 cap1 : Nat) (t1 : List Ac10) (a2 : Int) (a3 : Int) (w : World) (hE : ErrType w) (w0 : InRow 1 encU Go.Proofs.YtgiiadjocfnhlaaGreatDoor.u64 0 w a0 len0 t0) (c0 : len0 ≤ cap0) (w1 : InRow 4 Ac10.cells Ac10.ok ac100 w a1 len1 t1) (c1 : len1 ≤ cap1) (w2 : (Lit.int .u64 a2).wf = true) (w3 : (Lit.int .i64 a3).wf = true) :
    Calls Tryz.prog 4 #[.slice a0 len0 cap0, .slice a1 len1 cap1, .int .u64 a2, .int .i64 a3] w fun e w' => e = .returned (.bool true) ∧ Below w.heap.size w w' := by
  have HMd : Hid _ := made_r a0 len0 cap0 t0 a1 len1 cap1 t1 40 w w0 c0 w1 hE (by omega)
  have HX2 : Hid (Plc a2) := by show Plc a2; obtain ⟨z0, z1⟩ := bounds_u64 w2; unfold Plc; omega
  clear w0 w1 c0 c1 hE w2 w3
  go_enter Tryz.func4, Tryz.ntmps4
  go_wp2_with fail
  refine Calls.mono HMd.out ?_
  clear HMd
  rintro e w3 h3
  rcases h3 with ⟨x0, x1, x2, x3, rfl, hsl, b3⟩ | ⟨r, gp, gk, R, x0, x1, x2, x3, rfl, _, hrn, hv⟩
  · obtain ⟨⟨p0, p1, p2, rfl⟩, ⟨p3, p4, p5, rfl⟩, ⟨p6, p7, p8, rfl⟩, ⟨p9, p10, p11, rfl⟩⟩ := hsl
    obtain ⟨W4, hW4⟩ : ∃ W4, W4 = w3.alloc (.cells #[.slice p0 p1 p2, .slice p3 p4 p5, .slice p6 p7 p8, .slice p9 p10 p11] 35) := ⟨_, rfl⟩
    have B4 : Hid (Below w.heap.size w W4) := by rw [hW4]; exact b3.trans ((below_one _ _).mono b3.size)
    clear b3
    go_upto_region 2 with fail
    rw [← hW4]
    clear hW4
    go_wp2_with fail
    refine (awake11_any _).mono ?_
    rintro e w5 ⟨rfl, b5⟩
    go_wp2
    go_ret
    exact ⟨rfl, B4.out.trans (b5.mono B4.out.size)⟩
  · obtain ⟨z0, z1, z2, z3, hz, ua, uc, la, lc, ia, ic, pa, pc, rfl, rfl, rfl, rfl⟩ := hv.shape
    simp at hz
    obtain ⟨rfl, rfl, rfl, rfl⟩ := hz
    obtain ⟨W4, hW4⟩ : ∃ W4, W4 = w3.alloc (.cells #[.slice ua 32 uc, .slice la 32 lc, .slice ia 32 ic, .slice pa 32 pc] 35) := ⟨_, rfl⟩
    have H4 : Hid (Rn w W4 r gp gk R ∧ RfV W4 R (.agg #[.slice ua 32 uc, .slice la 32 lc, .slice ia 32 ic, .slice pa 32 pc]) ∧ W4.heap[w3.heap.size]? = some (.cells #[.slice ua 32 uc, .slice la 32 lc, .slice ia 32 ic, .slice pa 32 pc] 35 (0, 0))) := by rw [hW4]; exact ⟨hrn.below (below_one _ _), hv.below (below_one _ _), heap_alloc_new w3 _⟩
    clear hrn hv
    go_upto_region 2 with fail
    rw [← hW4]
    clear hW4
    generalize w3.heap.size = q0 at H4 ⊢
    go_wp2_with fail
    refine (of_r r gp gk R _ H4.out.1.ring H4.out.1.inv).mono ?_
    rintro e w5 ⟨C, g, b, c, d, rfl, hC, hm, hc1, hc2, hp, hd, b5⟩
    have hll : R.live.length ≤ 32 := liveTo_len R 32
    have h4 := live_four H4.out.1.inv
    have hCl := hC.len
    obtain ⟨n, hn⟩ : ∃ n, n = R.live.length := ⟨_, rfl⟩
    rw [← hn] at hll h4 hCl hm hc1 hp hd ⊢
    obtain ⟨W6, hW6⟩ : ∃ W6, W6 = w5.alloc (.cells #[.slice (some ⟨g, 0, none⟩) n c, .slice b n d] 54) := ⟨_, rfl⟩
    have B6 : Below w5.heap.size w5 W6 := by rw [hW6]; exact below_one _ _
    have B46 : Below W4.heap.size W4 W6 := b5.trans (B6.mono b5.size)
    have hbr : W6.heap[q0]? = some (.cells #[.slice ua 32 uc, .slice la 32 lc, .slice ia 32 ic, .slice pa 32 pc] 35 (0, 0)) := (B46.block _ (lt_of_block H4.out.2.2)).trans H4.out.2.2
    have HC : Hid (Cir R C ∧ C.length = n ∧ InIn W6 (some ⟨g, 0, none⟩) n C ∧ (n ≤ c ∧ c ≤ 9223372036854775807) ∧ IdIn W6 b n (C.map R.idOf) ∧ Rn w W6 r gp gk R ∧ n = R.live.length ∧ RfV W6 R (.agg #[.slice ua 32 uc, .slice la 32 lc, .slice ia 32 ic, .slice pa 32 pc])) := ⟨hC, hCl, hm.below (Nat.le_refl _) B6, ⟨hc1, hc2⟩, hp.below (Nat.le_refl _) B6, H4.out.1.below B46, hn, H4.out.2.1.below B46⟩
    have hbx : W6.heap[w5.heap.size]? = some (.cells #[.slice (some ⟨g, 0, none⟩) n c, .slice b n d] 54 (0, 0)) := by rw [hW6]; exact heap_alloc_new w5 _
    clear hC hm hc1 hc2 hp hd b5 B6 B46 hCl hn H4
    go_upto_region 5 with fail
    rw [← hW6]
    clear hW6
    generalize w5.heap.size = q at hbx ⊢
    have c0 : W6.cell? ⟨q, 0, none⟩ = some (.slice (some ⟨g, 0, none⟩) n c) := by simp [World.cell?, hbx]
    have c1 : W6.cell? ⟨q, 1, none⟩ = some (.slice b n d) := by simp [World.cell?, hbx]
    have cl := cell_block c0
    obtain ⟨r0, r1, r2, r3, rl⟩ := c4_block hbr
    have HCL : Hid (W6.cell? ⟨q, 0, none⟩ = some (.slice (some ⟨g, 0, none⟩) n c) ∧ W6.cell? ⟨q, 1, none⟩ = some (.slice b n d) ∧ W6.heap[q0]? = some (.cells #[.slice ua 32 uc, .slice la 32 lc, .slice ia 32 ic, .slice pa 32 pc] 35 (0, 0))) := ⟨c0, c1, hbr⟩
    clear hbx hbr
    have hE := HC.out
    have hinv := hE.2.2.2.2.2.1.inv
    obtain ⟨ko, hko, hkn⟩ := owner_rng (C.map R.idOf) a2 (by rw [List.length_map]; omega)
    rw [List.length_map, hE.2.1] at hkn
    obtain ⟨o, ho⟩ : ∃ o, o = C.getD ko 0 := ⟨_, rfl⟩
    have hlo : R.least a2 (-1) R.live = o := by rw [ho]; exact least_owner hinv hE.1 HX2.out hko (by rw [hE.2.1]; exact hkn)
    obtain ⟨isv, hisv⟩ : ∃ isv, isv = isB R C C.length := ⟨_, rfl⟩
    have trB : ∀ {W w' : World}, Below W6.heap.size W6 W → Below W.heap.size W w' → Below W6.heap.size W6 w' := fun h1 h2 => h1.trans (h2.mono h1.size)
    have HC1 : Hid (∀ W, Below W6.heap.size W6 W → Calls Tryz.prog 16 #[] W fun e w' => e = .returned (.bool true) ∧ Below W6.heap.size W6 w') := fun W hW => by
      refine (awake11_any W).mono ?_
      rintro e w' ⟨h1, h2⟩
      exact ⟨h1, trB hW h2⟩
    have HC2 : Hid (∀ W, Below W6.heap.size W6 W → Calls Tryz.prog 18 #[.agg #[.slice (some ⟨g, 0, none⟩) n c, .slice b n d]] W fun e w' => e = .returned (.int .i64 n) ∧ Below W6.heap.size W6 w') := fun W hW => by
      refine (clen_r _ _ n c W).mono ?_
      rintro e w' ⟨h1, h2⟩
      exact ⟨h1, trB hW h2⟩
    have HC3 : Hid (∀ W, Below W6.heap.size W6 W → Calls Tryz.prog 19 #[.agg #[.slice ua 32 uc, .slice la 32 lc, .slice ia 32 ic, .slice pa 32 pc]] W fun e w' => ∃ aL cL, e = .returned (.slice aL n cL) ∧ Below W6.heap.size W6 w') := fun W hW => by
      refine (rlive_r R _ W (hE.2.2.2.2.2.2.2.below hW)).mono ?_
      rintro e w' ⟨aL, cL, h1, _, _, h2⟩
      rw [← hE.2.2.2.2.2.2.1] at h1
      exact ⟨aL, cL, h1, trB hW h2⟩
    have HC4 : Hid (∀ W, Below W6.heap.size W6 W → Calls Tryz.prog 20 #[.agg #[.slice (some ⟨g, 0, none⟩) n c, .slice b n d], .int .u64 a2] W fun e w' => e = .returned (.int .i64 o) ∧ Below W6.heap.size W6 w') := fun W hW => by
      refine (cowner_r R C g c d n ko b a2 W (hE.2.2.1.below (Nat.le_refl _) hW) (hE.2.2.2.2.1.below (Nat.le_refl _) hW) h4 hko hkn).mono ?_
      rintro e w' ⟨h1, h2⟩
      exact ⟨by rw [h1, ho], trB hW h2⟩
    have HC5 : Hid (∀ W, Below W6.heap.size W6 W → Calls Tryz.prog 21 #[.agg #[.slice ua 32 uc, .slice la 32 lc, .slice ia 32 ic, .slice pa 32 pc], .int .u64 a2] W fun e w' => e = .returned (.int .i64 o) ∧ Below W6.heap.size W6 w') := fun W hW => by
      refine (rowner_r R _ a2 W (hE.2.2.2.2.2.2.2.below hW) hinv HX2.out).mono ?_
      rintro e w' ⟨h1, h2⟩
      exact ⟨by rw [h1, hlo], trB hW h2⟩
    have HC6 : Hid (∀ W, Below W6.heap.size W6 W → Calls Tryz.prog 22 #[.pointer (some ⟨r, 0, none⟩)] W fun e w' => e = .returned (.bool isv) ∧ Below W6.heap.size W6 w') := fun W hW => by
      refine (is_r r gp gk R W (hE.2.2.2.2.2.1.ring.below hW) hinv).mono ?_
      rintro e w' ⟨C', hC', h1, h2⟩
      rw [Cir.uniq hinv hC' hE.1] at h1
      exact ⟨by rw [h1, hisv], trB hW h2⟩
    have HC7 : Hid (∀ W, Below W6.heap.size W6 W → Calls Tryz.prog 23 #[.agg #[.slice ua 32 uc, .slice la 32 lc, .slice ia 32 ic, .slice pa 32 pc]] W fun e w' => e = .returned (.bool isv) ∧ Below W6.heap.size W6 w') := fun W hW => by
      refine (ris_r R C _ W (hE.2.2.2.2.2.2.2.below hW) hinv hE.1).mono ?_
      rintro e w' ⟨h1, h2⟩
      exact ⟨by rw [h1, hisv], trB hW h2⟩
    clear hE hinv hko ho hlo hisv trB hkn
    have e1 : ((n : Int) != (n : Int)) = false := by simp
    have e2 : (o != o) = false := by simp
    have e3 : (isv != isv) = false := by simp
    go_cut [54] (fun u wx => u = .bool false ∧ Hid (Below W6.heap.size W6 wx))
    case first =>
      go_region_held3 (fun W' => W'.cell? ⟨q, 0, none⟩ = some (.slice (some ⟨g, 0, none⟩) n c) ∧ W'.cell? ⟨q, 1, none⟩ = some (.slice b n d) ∧ W'.cell? ⟨q0, 0, none⟩ = some (.slice ua 32 uc) ∧ W'.cell? ⟨q0, 1, none⟩ = some (.slice la 32 lc) ∧ W'.cell? ⟨q0, 2, none⟩ = some (.slice ia 32 ic) ∧ W'.cell? ⟨q0, 3, none⟩ = some (.slice pa 32 pc))
        (first
          | go_keep
          | assumption)
        (first
          | (go_at_call 16; refine Calls.mono (HC1.out _ ?_) ?_; first | exact BJ.out | exact BI.out | exact BR.out | exact BO.out | exact BL.out | exact BN.out | exact BA.out | exact ⟨rfl, rfl, rfl, Nat.le_refl _, fun _ _ => rfl⟩
             rintro e wBA ⟨rfl, hBA⟩
             have BA : Hid (Below W6.heap.size W6 wBA) := hBA
             have ka0 := cell_grown c0 BA.out
             have ka1 := cell_grown c1 BA.out
             have ka2 := cell_grown r0 BA.out
             have ka3 := cell_grown r1 BA.out
             have ka4 := cell_grown r2 BA.out
             have ka5 := cell_grown r3 BA.out
             have kal := cell_block ka0
             have kam := cell_block ka2
             clear hBA)
          | (go_at_call 18; refine Calls.mono (HC2.out _ ?_) ?_; first | exact BJ.out | exact BI.out | exact BR.out | exact BO.out | exact BL.out | exact BN.out | exact BA.out | exact ⟨rfl, rfl, rfl, Nat.le_refl _, fun _ _ => rfl⟩
             rintro e wBN ⟨rfl, hBN⟩
             have BN : Hid (Below W6.heap.size W6 wBN) := hBN
             have kn0 := cell_grown c0 BN.out
             have kn1 := cell_grown c1 BN.out
             have kn2 := cell_grown r0 BN.out
             have kn3 := cell_grown r1 BN.out
             have kn4 := cell_grown r2 BN.out
             have kn5 := cell_grown r3 BN.out
             have knl := cell_block kn0
             have knm := cell_block kn2
             clear hBN)
          | (go_at_call 19; refine Calls.mono (HC3.out _ ?_) ?_; first | exact BJ.out | exact BI.out | exact BR.out | exact BO.out | exact BL.out | exact BN.out | exact BA.out | exact ⟨rfl, rfl, rfl, Nat.le_refl _, fun _ _ => rfl⟩
             rintro e wBL ⟨aL, cL, rfl, hBL⟩
             have BL : Hid (Below W6.heap.size W6 wBL) := hBL
             have kl0 := cell_grown c0 BL.out
             have kl1 := cell_grown c1 BL.out
             have kl2 := cell_grown r0 BL.out
             have kl3 := cell_grown r1 BL.out
             have kl4 := cell_grown r2 BL.out
             have kl5 := cell_grown r3 BL.out
             have kll := cell_block kl0
             have klm := cell_block kl2
             clear hBL)
          | (go_at_call 20; refine Calls.mono (HC4.out _ ?_) ?_; first | exact BJ.out | exact BI.out | exact BR.out | exact BO.out | exact BL.out | exact BN.out | exact BA.out | exact ⟨rfl, rfl, rfl, Nat.le_refl _, fun _ _ => rfl⟩
             rintro e wBO ⟨rfl, hBO⟩
             have BO : Hid (Below W6.heap.size W6 wBO) := hBO
             have ko0 := cell_grown c0 BO.out
             have ko1 := cell_grown c1 BO.out
             have ko2 := cell_grown r0 BO.out
             have ko3 := cell_grown r1 BO.out
             have ko4 := cell_grown r2 BO.out
             have ko5 := cell_grown r3 BO.out
             have kol := cell_block ko0
             have kom := cell_block ko2
             clear hBO)
          | (go_at_call 21; refine Calls.mono (HC5.out _ ?_) ?_; first | exact BJ.out | exact BI.out | exact BR.out | exact BO.out | exact BL.out | exact BN.out | exact BA.out | exact ⟨rfl, rfl, rfl, Nat.le_refl _, fun _ _ => rfl⟩
             rintro e wBR ⟨rfl, hBR⟩
             have BR : Hid (Below W6.heap.size W6 wBR) := hBR
             have kr0 := cell_grown c0 BR.out
             have kr1 := cell_grown c1 BR.out
             have kr2 := cell_grown r0 BR.out
             have kr3 := cell_grown r1 BR.out
             have kr4 := cell_grown r2 BR.out
             have kr5 := cell_grown r3 BR.out
             have krl := cell_block kr0
             have krm := cell_block kr2
             clear hBR)
          | (go_at_call 22; refine Calls.mono (HC6.out _ ?_) ?_; first | exact BJ.out | exact BI.out | exact BR.out | exact BO.out | exact BL.out | exact BN.out | exact BA.out | exact ⟨rfl, rfl, rfl, Nat.le_refl _, fun _ _ => rfl⟩
             rintro e wBI ⟨rfl, hBI⟩
             have BI : Hid (Below W6.heap.size W6 wBI) := hBI
             have ki0 := cell_grown c0 BI.out
             have ki1 := cell_grown c1 BI.out
             have ki2 := cell_grown r0 BI.out
             have ki3 := cell_grown r1 BI.out
             have ki4 := cell_grown r2 BI.out
             have ki5 := cell_grown r3 BI.out
             have kil := cell_block ki0
             have kim := cell_block ki2
             clear hBI)
          | (go_at_call 23; refine Calls.mono (HC7.out _ ?_) ?_; first | exact BJ.out | exact BI.out | exact BR.out | exact BO.out | exact BL.out | exact BN.out | exact BA.out | exact ⟨rfl, rfl, rfl, Nat.le_refl _, fun _ _ => rfl⟩
             rintro e wBJ ⟨rfl, hBJ⟩
             have BJ : Hid (Below W6.heap.size W6 wBJ) := hBJ
             have kj0 := cell_grown c0 BJ.out
             have kj1 := cell_grown c1 BJ.out
             have kj2 := cell_grown r0 BJ.out
             have kj3 := cell_grown r1 BJ.out
             have kj4 := cell_grown r2 BJ.out
             have kj5 := cell_grown r3 BJ.out
             have kjl := cell_block kj0
             have kjm := cell_block kj2
             clear hBJ))
      all_goals
        go_wp2
        go_meet
        exact ⟨by simp, by first | exact BJ.out | exact BI.out | exact BR.out | exact BO.out | exact BL.out | exact BN.out | exact BA.out | exact ⟨rfl, rfl, rfl, Nat.le_refl _, fun _ _ => rfl⟩⟩
    case rest =>
      rename World => W7
      obtain ⟨rfl, HC0⟩ := hcut
      clear HC1 HC2 HC3 HC4 HC5 HC6 HC7 e1 e2 e3 c0 c1 cl r0 r1 r2 r3 rl
      go_wp2
      go_loopg [13] 34 (fun kx s wr => ∃ k : Nat, s = .int .i64 ((k : Int) - 1) ∧ k ≤ 34 ∧ kx = 34 - k ∧ Hid (Below W6.heap.size W6 wr))
      case atStart => exact ⟨0, by simp, by omega, rfl, HC0⟩
      case round =>
        obtain ⟨k, rfl, hk, rfl, HB⟩ := hrel
        clear HC0
        by_cases hlt : k < 34
        · obtain ⟨m, hm⟩ : ∃ m : Int, m = (k : Int) - 1 := ⟨_, rfl⟩
          rw [← hm]
          have hm33 : m < 33 := by omega
          have hm1 : -1 ≤ m := by omega
          have HM : Hid (m = (k : Int) - 1) := hm
          clear hm
          have HW : Hid (∀ W, Below W6.heap.size W6 W → RfW W (lvL R) (idL R) (.agg #[.slice la 32 lc, .slice ia 32 ic])) := fun W hW => by
            obtain ⟨ua', uc', la', lc', ia', ic', pa', pc', P, e, h1, h2, h3, h4, h5⟩ := (HC.out.2.2.2.2.2.2.2.below hW).ex
            simp at e
            obtain ⟨⟨rfl, rfl⟩, ⟨rfl, rfl⟩, ⟨rfl, rfl⟩, rfl, rfl⟩ := e
            exact ⟨la, 32, lc, ia, 32, ic, rfl, h2, h3⟩
          have c0 := cell_grown HCL.out.1 HB.out
          have c1 := cell_grown HCL.out.2.1 HB.out
          have cl := cell_block c0
          cases hlv : R.lives m
          · have hne : ∀ j, j < n → C.getD j 0 ≠ m := fun j hj e => by
              have := HC.out.1.lv (i := j) (by rw [HC.out.2.1]; exact hj)
              rw [e, hlv] at this; cases this
            have HNE : Hid ((∀ j, j < n → C.getD j 0 ≠ m) ∧ livesB (lvL R) m = false) := ⟨hne, by rw [livesB_R HC.out.2.2.2.2.2.1.inv, hlv]⟩
            clear hne hlv
            go_wp2_with fail
            refine (cpeer_none C g c d n b m _ (HC.out.2.2.1.below (Nat.le_refl _) HB.out) HNE.out.1).mono ?_
            rintro e w8 ⟨rfl, b8⟩
            obtain ⟨W9, hW9⟩ : ∃ W9, W9 = w8.alloc (.cells #[.int .u64 0, .int .i64 0, .slice none 0 0] 63) := ⟨_, rfl⟩
            have B9 : Below wr.heap.size wr W9 := by rw [hW9]; exact b8.trans ((below_one _ _).mono b8.size)
            have H9 : Hid (Below W6.heap.size W6 W9 ∧ W9.heap[w8.heap.size]? = some (.cells #[.int .u64 0, .int .i64 0, .slice none 0 0] 63 (0, 0))) := ⟨HB.out.trans (B9.mono HB.out.size), by rw [hW9]; exact heap_alloc_new w8 _⟩
            clear b8 B9 c0 c1 cl
            go_upto_region 11 with fail
            rw [← hW9]
            clear hW9
            generalize w8.heap.size = q9 at H9 ⊢
            have hbr : W9.heap[q0]? = some (.cells #[.slice ua 32 uc, .slice la 32 lc, .slice ia 32 ic, .slice pa 32 pc] 35 (0, 0)) := (H9.out.1.block _ (lt_of_block HCL.out.2.2)).trans HCL.out.2.2
            obtain ⟨r0, r1, r2, r3, rl⟩ := c4_block hbr
            go_wp2_with fail
            refine (rlives_r (lvL R) (idL R) _ m _ (HW.out _ H9.out.1)).mono ?_
            rintro e w10 ⟨rfl, b10⟩
            rw [HNE.out.2]
            have H10 : Hid (Below W6.heap.size W6 w10 ∧ w10.heap[q9]? = some (.cells #[.int .u64 0, .int .i64 0, .slice none 0 0] 63 (0, 0))) := ⟨H9.out.1.trans (b10.mono H9.out.1.size), (b10.block _ (lt_of_block H9.out.2)).trans H9.out.2⟩
            clear b10 H9 r0 r1 r2 r3 rl hbr
            have c0 := cell_grown HCL.out.1 H10.out.1
            have c1 := cell_grown HCL.out.2.1 H10.out.1
            have cl := cell_block c0
            go_wp2_with fail
            refine (cfinger_none C g c d n b m a3 _ (HC.out.2.2.1.below (Nat.le_refl _) H10.out.1) HNE.out.1).mono ?_
            rintro e w11 ⟨rfl, b11⟩
            obtain ⟨u0, u1, u2, ul⟩ := c3_block ((b11.block _ (lt_of_block H10.out.2)).trans H10.out.2)
            have H11 : Hid (Below W6.heap.size W6 w11) := H10.out.1.trans (b11.mono H10.out.1.size)
            clear b11 H10 c0 c1 cl
            go_wp2
            go_roundg (34 - (k + 1))
            case measure => omega
            case rel => exact ⟨k + 1, by rw [HM.out]; go_num, by omega, rfl, H11⟩
          · obtain ⟨j, hj, hjx⟩ := HC.out.1.at_ hlv
            rw [HC.out.2.1] at hj
            have hrg := HC.out.2.2.2.2.2.1.inv.rng m hlv
            have hlb : livesB (lvL R) m = true := by rw [livesB_R HC.out.2.2.2.2.2.1.inv, hlv]
            clear hlv
            obtain ⟨y, rfl⟩ : ∃ y : Nat, m = (y : Int) := ⟨m.toNat, by omega⟩
            have hy32 : y < 32 := by omega
            have HJ : Hid (C.getD j 0 = y ∧ livesB (lvL R) y = true ∧ ∀ u, u < j → C.getD u 0 ≠ C.getD j 0) := ⟨hjx, hlb, fun u hu e => by have := HC.out.1.inj (by rw [HC.out.2.1]; omega) (by rw [HC.out.2.1]; exact hj) e; omega⟩
            clear hjx hlb hrg
            obtain ⟨pp, hpp⟩ : ∃ pp, pp = idPe R C j := ⟨_, rfl⟩
            have HPP : Hid (idPe R C j = pp) := hpp.symm
            have HCP : Hid (∀ W, Below W6.heap.size W6 W → Calls Tryz.prog 24 #[.agg #[.slice (some ⟨g, 0, none⟩) n c, .slice b n d], .int .i64 y] W fun e w' => ∃ a2 c2, e = .returned (.tuple #[.agg #[.int .u64 pp.id, .int .i64 pp.pred, .slice a2 3 c2], .bool true]) ∧ InIn w' a2 3 pp.succ ∧ Below W6.heap.size W6 w') := fun W hW => by
              have h := cpeer_r R C g c d n j b W (HC.out.2.2.1.below (Nat.le_refl _) hW) HC.out.2.2.2.1.1 HC.out.2.2.2.1.2 (HC.out.2.2.2.2.1.below (Nat.le_refl _) hW) h4 hll hj HJ.out.2.2
              rw [HJ.out.1, HPP.out] at h
              refine Calls.mono h ?_
              rintro e w' ⟨a2, c2, h1, h2, _, h3⟩
              exact ⟨a2, c2, h1, h2, hW.trans (h3.mono hW.size)⟩
            have HRP : Hid (∀ W, Below W6.heap.size W6 W → Calls Tryz.prog 30 #[.agg #[.slice ua 32 uc, .slice la 32 lc, .slice ia 32 ic, .slice pa 32 pc], .int .i64 y] W fun e w' => ∃ a2 c2, e = .returned (.agg #[.int .u64 pp.id, .int .i64 pp.pred, .slice a2 3 c2]) ∧ InIn w' a2 3 pp.succ ∧ Below W6.heap.size W6 w' ∧ Below W.heap.size W w') := fun W hW => by
              refine (rpeer_r R C _ j y W (HC.out.2.2.2.2.2.2.2.below hW) HC.out.2.2.2.2.2.1.inv HC.out.1 (by rw [HC.out.2.1]; exact hj) HJ.out.1).mono ?_
              rintro e w' ⟨a2, c2, h1, h2, h3⟩
              rw [HPP.out] at h1 h2
              exact ⟨a2, c2, h1, h2, hW.trans (h3.mono hW.size), h3⟩
            have HFI : Hid (∃ wv : Int, (∀ W, Below W6.heap.size W6 W → Calls Tryz.prog 26 #[.agg #[.slice (some ⟨g, 0, none⟩) n c, .slice b n d], .int .i64 y, .int .i64 a3] W fun e w' => e = .returned (.int .i64 wv) ∧ Below W.heap.size W w') ∧ ((a3 < 0 ∨ 63 < a3) → wv = -1) ∧ (¬ (a3 < 0 ∨ 63 < a3) → ∀ W, Below W6.heap.size W6 W → Calls Tryz.prog 27 #[.agg #[.slice ua 32 uc, .slice la 32 lc, .slice ia 32 ic, .slice pa 32 pc], .int .i64 y, .int .i64 a3] W fun e w' => e = .returned (.int .i64 wv) ∧ Below W.heap.size W w')) := by
              by_cases hk3 : a3 < 0 ∨ 63 < a3
              · refine ⟨-1, fun W hW => ?_, fun _ => rfl, fun q => absurd hk3 q⟩
                have h := cfinger_out C g c d n j b a3 W (HC.out.2.2.1.below (Nat.le_refl _) hW) hj HJ.out.2.2 hk3
                rw [HJ.out.1] at h
                refine Calls.mono h ?_
                rintro e w' ⟨h1, h2⟩
                exact ⟨h1, h2⟩
              · obtain ⟨kk, rfl⟩ : ∃ kk : Nat, a3 = (kk : Int) := ⟨a3.toNat, by omega⟩
                have hinv := HC.out.2.2.2.2.2.1.inv
                have hst := start_rng (R.idOf y) kk (hinv.u y)
                obtain ⟨kf, hkf, hkl⟩ := owner_rng (C.map R.idOf) (startN (R.idOf y) kk) (by rw [List.length_map, HC.out.2.1]; omega)
                rw [List.length_map, HC.out.2.1] at hkl
                refine ⟨C.getD kf 0, fun W hW => ?_, fun q => absurd q hk3, fun _ W hW => ?_⟩
                · have h := cfinger_r R C g c d n j kk kf b W (HC.out.2.2.1.below (Nat.le_refl _) hW) (HC.out.2.2.2.2.1.below (Nat.le_refl _) hW) h4 hj HJ.out.2.2 (by omega) (by rw [HJ.out.1]; exact hkf) hkl
                  rw [HJ.out.1] at h
                  refine Calls.mono h ?_
                  rintro e w' ⟨h1, h2⟩
                  exact ⟨h1, h2⟩
                · refine (rfinger_r R _ y kk W (HC.out.2.2.2.2.2.2.2.below hW) hinv hy32 (by omega)).mono ?_
                  rintro e w' ⟨h1, h2⟩
                  rw [least_owner hinv HC.out.1 hst hkf (by rw [HC.out.2.1]; exact hkl)] at h1
                  exact ⟨h1, h2⟩
            obtain ⟨wv, hfi1, hfi2, hfi3⟩ := HFI.out
            have HF1 : Hid _ := hfi1
            have HF2 : Hid (((a3 < 0 ∨ 63 < a3) → wv = -1) ∧ (¬ (a3 < 0 ∨ 63 < a3) → ∀ W, Below W6.heap.size W6 W → Calls Tryz.prog 27 #[.agg #[.slice ua 32 uc, .slice la 32 lc, .slice ia 32 ic, .slice pa 32 pc], .int .i64 y, .int .i64 a3] W fun e w' => e = .returned (.int .i64 wv) ∧ Below W.heap.size W w')) := ⟨hfi2, hfi3⟩
            clear hfi1 hfi2 hfi3 HFI hpp
            obtain ⟨pid, ppr, psc⟩ := pp
            simp only at HCP HRP
            go_wp2_with fail
            refine Calls.mono (HCP.out _ HB.out) ?_
            rintro e w8 ⟨pa8, pc8, rfl, hin8, b8⟩
            obtain ⟨W9, hW9⟩ : ∃ W9, W9 = w8.alloc (.cells #[.int .u64 pid, .int .i64 ppr, .slice pa8 3 pc8] 63) := ⟨_, rfl⟩
            have H9 : Hid (Below W6.heap.size W6 W9 ∧ W9.heap[w8.heap.size]? = some (.cells #[.int .u64 pid, .int .i64 ppr, .slice pa8 3 pc8] 63 (0, 0)) ∧ InIn W9 pa8 3 psc) := by rw [hW9]; exact ⟨b8.trans ((below_one _ _).mono b8.size), heap_alloc_new w8 _, hin8.below (Nat.le_refl _) (below_one _ _)⟩
            clear b8 hin8 c0 c1 cl
            go_upto_region 11 with fail
            rw [← hW9]
            clear hW9
            generalize w8.heap.size = q9 at H9 ⊢
            have hbr : W9.heap[q0]? = some (.cells #[.slice ua 32 uc, .slice la 32 lc, .slice ia 32 ic, .slice pa 32 pc] 35 (0, 0)) := (H9.out.1.block _ (lt_of_block HCL.out.2.2)).trans HCL.out.2.2
            obtain ⟨r0, r1, r2, r3, rl⟩ := c4_block hbr
            go_wp2_with fail
            refine (rlives_r (lvL R) (idL R) _ y _ (HW.out _ H9.out.1)).mono ?_
            rintro e w10 ⟨rfl, b10⟩
            rw [HJ.out.2.1]
            have H10 : Hid (Below W6.heap.size W6 w10 ∧ w10.heap[q9]? = some (.cells #[.int .u64 pid, .int .i64 ppr, .slice pa8 3 pc8] 63 (0, 0)) ∧ InIn w10 pa8 3 psc) := ⟨H9.out.1.trans (b10.mono H9.out.1.size), (b10.block _ (lt_of_block H9.out.2.1)).trans H9.out.2.1, H9.out.2.2.below (Nat.le_refl _) b10⟩
            clear b10 H9 r0 r1 r2 r3 rl hbr
            by_cases hk3 : a3 < 0 ∨ 63 < a3
            · obtain rfl : wv = -1 := HF2.out.1 hk3
              have HCX : Hid (Below w10.heap.size w10 w10) := Below.refl _ _
              by_cases ha0 : 0 ≤ a3
              · have ha1 : ¬ a3 < 64 := by omega
                clear hk3
                have H11 : Hid (Below W6.heap.size W6 w10 ∧ w10.heap[q9]? = some (.cells #[.int .u64 pid, .int .i64 ppr, .slice pa8 3 pc8] 63 (0, 0)) ∧ InIn w10 pa8 3 psc) := ⟨H10.out.1.trans (HCX.out.mono H10.out.1.size), (HCX.out.block _ (lt_of_block H10.out.2.1)).trans H10.out.2.1, H10.out.2.2.below (Nat.le_refl _) HCX.out⟩
                clear HCX H10 HF2
                have c0 := cell_grown HCL.out.1 H11.out.1
                have c1 := cell_grown HCL.out.2.1 H11.out.1
                have cl := cell_block c0
                have hbr : w10.heap[q0]? = some (.cells #[.slice ua 32 uc, .slice la 32 lc, .slice ia 32 ic, .slice pa 32 pc] 35 (0, 0)) := (H11.out.1.block _ (lt_of_block HCL.out.2.2)).trans HCL.out.2.2
                obtain ⟨r0, r1, r2, r3, rl⟩ := c4_block hbr
                obtain ⟨u0, u1, u2, ul⟩ := c3_block H11.out.2.1
                have nww : ((-1 : Int) != -1) = false := by simp
                go_upto_region 19 with fail
                go_cut [113] (fun u wx => u = .bool false ∧ Hid (Below w10.heap.size w10 wx))
                case first =>
                  go_region_held3 (fun W' => W'.cell? ⟨q, 0, none⟩ = some (.slice (some ⟨g, 0, none⟩) n c) ∧ W'.cell? ⟨q, 1, none⟩ = some (.slice b n d) ∧ W'.cell? ⟨q0, 0, none⟩ = some (.slice ua 32 uc) ∧ W'.cell? ⟨q0, 1, none⟩ = some (.slice la 32 lc) ∧ W'.cell? ⟨q0, 2, none⟩ = some (.slice ia 32 ic) ∧ W'.cell? ⟨q0, 3, none⟩ = some (.slice pa 32 pc) ∧ W'.cell? ⟨q9, 0, none⟩ = some (.int .u64 pid) ∧ W'.cell? ⟨q9, 1, none⟩ = some (.int .i64 ppr) ∧ W'.cell? ⟨q9, 2, none⟩ = some (.slice pa8 3 pc8))
                    (first
                      | go_keep
                      | assumption)
                    (first
                      | (go_at_call 29; refine Calls.mono (told9_r pid ppr pa8 3 pc8 _) ?_; rintro e wT ⟨rfl, bT⟩
                         have BT : Hid (Below w10.heap.size w10 wT) := by first | exact BQ.out.trans (bT.mono BQ.out.size) | exact ⟨bT.os, bT.tape, bT.output, bT.size, bT.block⟩
                         try (have HQT : Hid (InIn wT aQ 3 psc) := HQI.out.below (Nat.le_refl _) bT)
                         have kt0 := cell_grown c0 BT.out
                         have kt1 := cell_grown c1 BT.out
                         have kt2 := cell_grown r0 BT.out
                         have kt3 := cell_grown r1 BT.out
                         have kt4 := cell_grown r2 BT.out
                         have kt5 := cell_grown r3 BT.out
                         have kt6 := cell_grown u0 BT.out
                         have kt7 := cell_grown u1 BT.out
                         have kt8 := cell_grown u2 BT.out
                         clear bT)
                      | (go_at_call 30; refine Calls.mono (HRP.out _ ?_) ?_; (first | exact H11.out.1.trans (BT.out.mono H11.out.1.size) | exact H11.out.1.trans ⟨rfl, rfl, rfl, Nat.le_refl _, fun _ _ => rfl⟩)
                         rintro e wQ ⟨aQ, cQ, rfl, hQ, _, bQ⟩
                         have BQ : Hid (Below w10.heap.size w10 wQ) := by first | exact BT.out.trans (bQ.mono BT.out.size) | exact ⟨bQ.os, bQ.tape, bQ.output, bQ.size, bQ.block⟩
                         have HQI : Hid (InIn wQ aQ 3 psc) := hQ
                         have kq0 := cell_grown c0 BQ.out
                         have kq1 := cell_grown c1 BQ.out
                         have kq2 := cell_grown r0 BQ.out
                         have kq3 := cell_grown r1 BQ.out
                         have kq4 := cell_grown r2 BQ.out
                         have kq5 := cell_grown r3 BQ.out
                         have kq6 := cell_grown u0 BQ.out
                         have kq7 := cell_grown u1 BQ.out
                         have kq8 := cell_grown u2 BQ.out
                         clear bQ hQ)
                      | (go_at_call 28; refine Calls.mono (rsame_any ⟨pid, ppr, psc⟩ ⟨pid, ppr, psc⟩ pa8 aQ 3 3 pc8 cQ _ ?_ ?_) ?_; (first | exact H11.out.2.2.below (Nat.le_refl _) BT.out | exact H11.out.2.2.below (Nat.le_refl _) BQ.out); (first | exact HQT.out | exact HQI.out)
                         rintro e wS ⟨rfl, bS⟩
                         rw [peB_self]
                         have BS : Hid (Below w10.heap.size w10 wS) := by first | exact BT.out.trans (bS.mono BT.out.size) | exact BQ.out.trans (bS.mono BQ.out.size)
                         have ks0 := cell_grown c0 BS.out
                         have ks1 := cell_grown c1 BS.out
                         have ks2 := cell_grown r0 BS.out
                         have ks3 := cell_grown r1 BS.out
                         have ks4 := cell_grown r2 BS.out
                         have ks5 := cell_grown r3 BS.out
                         have ks6 := cell_grown u0 BS.out
                         have ks7 := cell_grown u1 BS.out
                         have ks8 := cell_grown u2 BS.out
                         clear bS)
                      | (go_at_call 26; refine Calls.mono (HF1.out _ ?_) ?_; exact H11.out.1.trans (BS.out.mono H11.out.1.size)
                         rintro e wF ⟨rfl, bF⟩
                         have BF : Hid (Below w10.heap.size w10 wF) := BS.out.trans (bF.mono BS.out.size)
                         have kf0 := cell_grown c0 BF.out
                         have kf1 := cell_grown c1 BF.out
                         have kf2 := cell_grown r0 BF.out
                         have kf3 := cell_grown r1 BF.out
                         have kf4 := cell_grown r2 BF.out
                         have kf5 := cell_grown r3 BF.out
                         have kf6 := cell_grown u0 BF.out
                         have kf7 := cell_grown u1 BF.out
                         have kf8 := cell_grown u2 BF.out
                         clear bF))
                  all_goals
                    go_wp2
                    go_meet
                    exact ⟨by simp, by first | exact BF.out | exact BS.out⟩
                case rest =>
                  rename World => W12
                  obtain ⟨rfl, HC12⟩ := hcut
                  have H12 : Hid (Below W6.heap.size W6 W12) := H11.out.1.trans (HC12.out.mono H11.out.1.size)
                  clear c0 c1 cl r0 r1 r2 r3 rl u0 u1 u2 ul hbr
                  go_wp2
                  go_roundg (34 - (k + 1))
                  case measure => omega
                  case rel => exact ⟨k + 1, by rw [HM.out]; go_num, by omega, rfl, H12⟩
              · clear hk3
                have H11 : Hid (Below W6.heap.size W6 w10 ∧ w10.heap[q9]? = some (.cells #[.int .u64 pid, .int .i64 ppr, .slice pa8 3 pc8] 63 (0, 0)) ∧ InIn w10 pa8 3 psc) := ⟨H10.out.1.trans (HCX.out.mono H10.out.1.size), (HCX.out.block _ (lt_of_block H10.out.2.1)).trans H10.out.2.1, H10.out.2.2.below (Nat.le_refl _) HCX.out⟩
                clear HCX H10 HF2
                have c0 := cell_grown HCL.out.1 H11.out.1
                have c1 := cell_grown HCL.out.2.1 H11.out.1
                have cl := cell_block c0
                have hbr : w10.heap[q0]? = some (.cells #[.slice ua 32 uc, .slice la 32 lc, .slice ia 32 ic, .slice pa 32 pc] 35 (0, 0)) := (H11.out.1.block _ (lt_of_block HCL.out.2.2)).trans HCL.out.2.2
                obtain ⟨r0, r1, r2, r3, rl⟩ := c4_block hbr
                obtain ⟨u0, u1, u2, ul⟩ := c3_block H11.out.2.1
                have nww : ((-1 : Int) != -1) = false := by simp
                go_upto_region 19 with fail
                go_cut [113] (fun u wx => u = .bool false ∧ Hid (Below w10.heap.size w10 wx))
                case first =>
                  go_region_held3 (fun W' => W'.cell? ⟨q, 0, none⟩ = some (.slice (some ⟨g, 0, none⟩) n c) ∧ W'.cell? ⟨q, 1, none⟩ = some (.slice b n d) ∧ W'.cell? ⟨q0, 0, none⟩ = some (.slice ua 32 uc) ∧ W'.cell? ⟨q0, 1, none⟩ = some (.slice la 32 lc) ∧ W'.cell? ⟨q0, 2, none⟩ = some (.slice ia 32 ic) ∧ W'.cell? ⟨q0, 3, none⟩ = some (.slice pa 32 pc) ∧ W'.cell? ⟨q9, 0, none⟩ = some (.int .u64 pid) ∧ W'.cell? ⟨q9, 1, none⟩ = some (.int .i64 ppr) ∧ W'.cell? ⟨q9, 2, none⟩ = some (.slice pa8 3 pc8))
                    (first
                      | go_keep
                      | assumption)
                    (first
                      | (go_at_call 29; refine Calls.mono (told9_r pid ppr pa8 3 pc8 _) ?_; rintro e wT ⟨rfl, bT⟩
                         have BT : Hid (Below w10.heap.size w10 wT) := by first | exact BQ.out.trans (bT.mono BQ.out.size) | exact ⟨bT.os, bT.tape, bT.output, bT.size, bT.block⟩
                         try (have HQT : Hid (InIn wT aQ 3 psc) := HQI.out.below (Nat.le_refl _) bT)
                         have kt0 := cell_grown c0 BT.out
                         have kt1 := cell_grown c1 BT.out
                         have kt2 := cell_grown r0 BT.out
                         have kt3 := cell_grown r1 BT.out
                         have kt4 := cell_grown r2 BT.out
                         have kt5 := cell_grown r3 BT.out
                         have kt6 := cell_grown u0 BT.out
                         have kt7 := cell_grown u1 BT.out
                         have kt8 := cell_grown u2 BT.out
                         clear bT)
                      | (go_at_call 30; refine Calls.mono (HRP.out _ ?_) ?_; (first | exact H11.out.1.trans (BT.out.mono H11.out.1.size) | exact H11.out.1.trans ⟨rfl, rfl, rfl, Nat.le_refl _, fun _ _ => rfl⟩)
                         rintro e wQ ⟨aQ, cQ, rfl, hQ, _, bQ⟩
                         have BQ : Hid (Below w10.heap.size w10 wQ) := by first | exact BT.out.trans (bQ.mono BT.out.size) | exact ⟨bQ.os, bQ.tape, bQ.output, bQ.size, bQ.block⟩
                         have HQI : Hid (InIn wQ aQ 3 psc) := hQ
                         have kq0 := cell_grown c0 BQ.out
                         have kq1 := cell_grown c1 BQ.out
                         have kq2 := cell_grown r0 BQ.out
                         have kq3 := cell_grown r1 BQ.out
                         have kq4 := cell_grown r2 BQ.out
                         have kq5 := cell_grown r3 BQ.out
                         have kq6 := cell_grown u0 BQ.out
                         have kq7 := cell_grown u1 BQ.out
                         have kq8 := cell_grown u2 BQ.out
                         clear bQ hQ)
                      | (go_at_call 28; refine Calls.mono (rsame_any ⟨pid, ppr, psc⟩ ⟨pid, ppr, psc⟩ pa8 aQ 3 3 pc8 cQ _ ?_ ?_) ?_; (first | exact H11.out.2.2.below (Nat.le_refl _) BT.out | exact H11.out.2.2.below (Nat.le_refl _) BQ.out); (first | exact HQT.out | exact HQI.out)
                         rintro e wS ⟨rfl, bS⟩
                         rw [peB_self]
                         have BS : Hid (Below w10.heap.size w10 wS) := by first | exact BT.out.trans (bS.mono BT.out.size) | exact BQ.out.trans (bS.mono BQ.out.size)
                         have ks0 := cell_grown c0 BS.out
                         have ks1 := cell_grown c1 BS.out
                         have ks2 := cell_grown r0 BS.out
                         have ks3 := cell_grown r1 BS.out
                         have ks4 := cell_grown r2 BS.out
                         have ks5 := cell_grown r3 BS.out
                         have ks6 := cell_grown u0 BS.out
                         have ks7 := cell_grown u1 BS.out
                         have ks8 := cell_grown u2 BS.out
                         clear bS)
                      | (go_at_call 26; refine Calls.mono (HF1.out _ ?_) ?_; exact H11.out.1.trans (BS.out.mono H11.out.1.size)
                         rintro e wF ⟨rfl, bF⟩
                         have BF : Hid (Below w10.heap.size w10 wF) := BS.out.trans (bF.mono BS.out.size)
                         have kf0 := cell_grown c0 BF.out
                         have kf1 := cell_grown c1 BF.out
                         have kf2 := cell_grown r0 BF.out
                         have kf3 := cell_grown r1 BF.out
                         have kf4 := cell_grown r2 BF.out
                         have kf5 := cell_grown r3 BF.out
                         have kf6 := cell_grown u0 BF.out
                         have kf7 := cell_grown u1 BF.out
                         have kf8 := cell_grown u2 BF.out
                         clear bF))
                  all_goals
                    go_wp2
                    go_meet
                    exact ⟨by simp, by first | exact BF.out | exact BS.out⟩
                case rest =>
                  rename World => W12
                  obtain ⟨rfl, HC12⟩ := hcut
                  have H12 : Hid (Below W6.heap.size W6 W12) := H11.out.1.trans (HC12.out.mono H11.out.1.size)
                  clear c0 c1 cl r0 r1 r2 r3 rl u0 u1 u2 ul hbr
                  go_wp2
                  go_roundg (34 - (k + 1))
                  case measure => omega
                  case rel => exact ⟨k + 1, by rw [HM.out]; go_num, by omega, rfl, H12⟩
            · have ha0 : 0 ≤ a3 := by omega
              have ha1 : a3 < 64 := by omega
              have HRF : Hid _ := HF2.out.2 hk3
              clear hk3
              have hbr : w10.heap[q0]? = some (.cells #[.slice ua 32 uc, .slice la 32 lc, .slice ia 32 ic, .slice pa 32 pc] 35 (0, 0)) := (H10.out.1.block _ (lt_of_block HCL.out.2.2)).trans HCL.out.2.2
              obtain ⟨r0, r1, r2, r3, rl⟩ := c4_block hbr
              go_wp2_with fail
              refine Calls.mono (HRF.out _ H10.out.1) ?_
              rintro e w11 ⟨rfl, b11⟩
              have HCX : Hid (Below w10.heap.size w10 w11) := b11
              clear b11 r0 r1 r2 r3 rl hbr HRF
              have H11 : Hid (Below W6.heap.size W6 w11 ∧ w11.heap[q9]? = some (.cells #[.int .u64 pid, .int .i64 ppr, .slice pa8 3 pc8] 63 (0, 0)) ∧ InIn w11 pa8 3 psc) := ⟨H10.out.1.trans (HCX.out.mono H10.out.1.size), (HCX.out.block _ (lt_of_block H10.out.2.1)).trans H10.out.2.1, H10.out.2.2.below (Nat.le_refl _) HCX.out⟩
              clear HCX H10 HF2
              have c0 := cell_grown HCL.out.1 H11.out.1
              have c1 := cell_grown HCL.out.2.1 H11.out.1
              have cl := cell_block c0
              have hbr : w11.heap[q0]? = some (.cells #[.slice ua 32 uc, .slice la 32 lc, .slice ia 32 ic, .slice pa 32 pc] 35 (0, 0)) := (H11.out.1.block _ (lt_of_block HCL.out.2.2)).trans HCL.out.2.2
              obtain ⟨r0, r1, r2, r3, rl⟩ := c4_block hbr
              obtain ⟨u0, u1, u2, ul⟩ := c3_block H11.out.2.1
              have nww : (wv != wv) = false := by simp
              go_upto_region 19 with fail
              go_cut [113] (fun u wx => u = .bool false ∧ Hid (Below w11.heap.size w11 wx))
              case first =>
                go_region_held3 (fun W' => W'.cell? ⟨q, 0, none⟩ = some (.slice (some ⟨g, 0, none⟩) n c) ∧ W'.cell? ⟨q, 1, none⟩ = some (.slice b n d) ∧ W'.cell? ⟨q0, 0, none⟩ = some (.slice ua 32 uc) ∧ W'.cell? ⟨q0, 1, none⟩ = some (.slice la 32 lc) ∧ W'.cell? ⟨q0, 2, none⟩ = some (.slice ia 32 ic) ∧ W'.cell? ⟨q0, 3, none⟩ = some (.slice pa 32 pc) ∧ W'.cell? ⟨q9, 0, none⟩ = some (.int .u64 pid) ∧ W'.cell? ⟨q9, 1, none⟩ = some (.int .i64 ppr) ∧ W'.cell? ⟨q9, 2, none⟩ = some (.slice pa8 3 pc8))
                  (first
                    | go_keep
                    | assumption)
                  (first
                    | (go_at_call 29; refine Calls.mono (told9_r pid ppr pa8 3 pc8 _) ?_; rintro e wT ⟨rfl, bT⟩
                       have BT : Hid (Below w11.heap.size w11 wT) := by first | exact BQ.out.trans (bT.mono BQ.out.size) | exact ⟨bT.os, bT.tape, bT.output, bT.size, bT.block⟩
                       try (have HQT : Hid (InIn wT aQ 3 psc) := HQI.out.below (Nat.le_refl _) bT)
                       have kt0 := cell_grown c0 BT.out
                       have kt1 := cell_grown c1 BT.out
                       have kt2 := cell_grown r0 BT.out
                       have kt3 := cell_grown r1 BT.out
                       have kt4 := cell_grown r2 BT.out
                       have kt5 := cell_grown r3 BT.out
                       have kt6 := cell_grown u0 BT.out
                       have kt7 := cell_grown u1 BT.out
                       have kt8 := cell_grown u2 BT.out
                       clear bT)
                    | (go_at_call 30; refine Calls.mono (HRP.out _ ?_) ?_; (first | exact H11.out.1.trans (BT.out.mono H11.out.1.size) | exact H11.out.1.trans ⟨rfl, rfl, rfl, Nat.le_refl _, fun _ _ => rfl⟩)
                       rintro e wQ ⟨aQ, cQ, rfl, hQ, _, bQ⟩
                       have BQ : Hid (Below w11.heap.size w11 wQ) := by first | exact BT.out.trans (bQ.mono BT.out.size) | exact ⟨bQ.os, bQ.tape, bQ.output, bQ.size, bQ.block⟩
                       have HQI : Hid (InIn wQ aQ 3 psc) := hQ
                       have kq0 := cell_grown c0 BQ.out
                       have kq1 := cell_grown c1 BQ.out
                       have kq2 := cell_grown r0 BQ.out
                       have kq3 := cell_grown r1 BQ.out
                       have kq4 := cell_grown r2 BQ.out
                       have kq5 := cell_grown r3 BQ.out
                       have kq6 := cell_grown u0 BQ.out
                       have kq7 := cell_grown u1 BQ.out
                       have kq8 := cell_grown u2 BQ.out
                       clear bQ hQ)
                    | (go_at_call 28; refine Calls.mono (rsame_any ⟨pid, ppr, psc⟩ ⟨pid, ppr, psc⟩ pa8 aQ 3 3 pc8 cQ _ ?_ ?_) ?_; (first | exact H11.out.2.2.below (Nat.le_refl _) BT.out | exact H11.out.2.2.below (Nat.le_refl _) BQ.out); (first | exact HQT.out | exact HQI.out)
                       rintro e wS ⟨rfl, bS⟩
                       rw [peB_self]
                       have BS : Hid (Below w11.heap.size w11 wS) := by first | exact BT.out.trans (bS.mono BT.out.size) | exact BQ.out.trans (bS.mono BQ.out.size)
                       have ks0 := cell_grown c0 BS.out
                       have ks1 := cell_grown c1 BS.out
                       have ks2 := cell_grown r0 BS.out
                       have ks3 := cell_grown r1 BS.out
                       have ks4 := cell_grown r2 BS.out
                       have ks5 := cell_grown r3 BS.out
                       have ks6 := cell_grown u0 BS.out
                       have ks7 := cell_grown u1 BS.out
                       have ks8 := cell_grown u2 BS.out
                       clear bS)
                    | (go_at_call 26; refine Calls.mono (HF1.out _ ?_) ?_; exact H11.out.1.trans (BS.out.mono H11.out.1.size)
                       rintro e wF ⟨rfl, bF⟩
                       have BF : Hid (Below w11.heap.size w11 wF) := BS.out.trans (bF.mono BS.out.size)
                       have kf0 := cell_grown c0 BF.out
                       have kf1 := cell_grown c1 BF.out
                       have kf2 := cell_grown r0 BF.out
                       have kf3 := cell_grown r1 BF.out
                       have kf4 := cell_grown r2 BF.out
                       have kf5 := cell_grown r3 BF.out
                       have kf6 := cell_grown u0 BF.out
                       have kf7 := cell_grown u1 BF.out
                       have kf8 := cell_grown u2 BF.out
                       clear bF))
                all_goals
                  go_wp2
                  go_meet
                  exact ⟨by simp, by first | exact BF.out | exact BS.out⟩
              case rest =>
                rename World => W12
                obtain ⟨rfl, HC12⟩ := hcut
                have H12 : Hid (Below W6.heap.size W6 W12) := H11.out.1.trans (HC12.out.mono H11.out.1.size)
                clear c0 c1 cl r0 r1 r2 r3 rl u0 u1 u2 ul hbr
                go_wp2
                go_roundg (34 - (k + 1))
                case measure => omega
                case rel => exact ⟨k + 1, by rw [HM.out]; go_num, by omega, rfl, H12⟩
        · obtain rfl : k = 34 := by omega
          go_wp2
          go_ret
          have hbb := HC.out.2.2.2.2.2.1.bel
          exact ⟨rfl, hbb.trans (HB.out.mono hbb.size)⟩

/-! ### The row's step -/
set_option maxRecDepth 100000 in
theorem lifted (os : Os) (started : os.Started) (H : Type) (enc : TypeId × Value → H) :
    ReturnsInHanded {} Tryz.checked os 4 .any (fun w args => (Rows.idealKnowsSpec.pre enc Tryz.prog Tryz.f4 [] false w args ∧ laidMetH Tryz.prog Rows.idealKnowsRow.laid w) ∧ sizedMet enc Tryz.prog Tryz.f4 (OpenSpec.ofChange Rows.idealKnowsSpec) false w args) (Rows.idealKnowsSpec.post enc Tryz.prog Tryz.f4 false true false false) := by
  refine returnsInHanded_of_change_and (C := Tryz.checked) (X := fun w _ => laidMetH Tryz.prog Rows.idealKnowsRow.laid w) (fun _ _ _ hh h => h.of_heap hh) own started (by kernel_rfl) Tryz.func4
    (ChangeSpec.witness_at (enc := enc) (C := Tryz.checked) (os := os) (X := fun w _ => laidMetH Tryz.prog Rows.idealKnowsRow.laid w) false ({ World.holding Tryz.prog os ⟨#[], #[], []⟩ with heap := (World.holding Tryz.prog os ⟨#[], #[], []⟩).heap.modify 0 fun | .cells _ t frozen => .cells #[.iface 148 (.agg #[.pointer (some ⟨1, 26, none⟩)])] t frozen | o => o }) #[.slice none 0 0, .slice none 0 0, .int .u64 0, .int .i64 0] 8 rfl (by kernel_rfl) (by kernel_rfl) (by kernel_rfl) (by kernel_rfl) (by kernel_rfl) (laidMetH_of_parts (laidMet_nil _ _) (by kernel_rfl))) ?_
  intro W base args ds gs before hval0 hW _ _ hL _
  have hval : ∀ (j : Nat) t v, Tryz.f4.params[j]? = some t → args[j]? = some v → Value.okWide Tryz.prog W .any base t v := hval0
  have hW' := hW
  obtain ⟨p, q, hA0, hV, rfl, hfz, hnd⟩ := hW
  have hA : DataW.TrodAll enc Tryz.prog W 0 (fun _ => true) true Tryz.f4.params.toList args.toList ds p := hA0
  rw [Tryz.params4] at hA hval
  obtain ⟨v0, vs0, d0, ds0, p0, q0, hargs, rfl, rfl, h0, r0⟩ := trodAll_cons hA
  obtain ⟨v1, vs1, d1, ds1, p1, q1, rfl, rfl, rfl, h1, r1⟩ := trodAll_cons r0
  obtain ⟨v2, vs2, d2, ds2, p2, q2, rfl, rfl, rfl, h2, r2⟩ := trodAll_cons r1
  obtain ⟨v3, vs3, d3, ds3, p3, q3, rfl, rfl, rfl, h3, r3⟩ := trodAll_cons r2
  obtain ⟨rfl, rfl, rfl⟩ := trodAll_nil r3
  obtain rfl : args = #[v0, v1, v2, v3] := by cases args; simp_all
  obtain ⟨rfl, rfl⟩ := trodVars_none hV
  obtain ⟨a0, len0, cap0, rfl⟩ := okWide_slice Tryz.underlying22 (hval 0 22 v0 rfl rfl)
  have k0 := h0
  have lt0 : ∀ x ∈ p0, x.block < W.heap.size := by obtain ⟨m, hm⟩ := k0; exact DataW.trod_lt m _ _ _ hm
  have c0 : len0 ≤ cap0 := by
    obtain ⟨fuel, hf⟩ := h0
    exact incap_of Tryz.underlying22 hf
  obtain ⟨t0, w0⟩ : ∃ ts, InRow 1 encU Go.Proofs.YtgiiadjocfnhlaaGreatDoor.u64 0 W a0 len0 ts := by
    obtain ⟨fuel, hf⟩ := h0
    exact inrow_of 1 encU Go.Proofs.YtgiiadjocfnhlaaGreatDoor.u64 0 22 45 Tryz.underlying22 cellsU1 (by omega) lenU (fun n cs x => uid_of n cs x) hf
  obtain ⟨a1, len1, cap1, rfl⟩ := okWide_slice Tryz.underlying23 (hval 1 23 v1 rfl rfl)
  have k1 := h1
  have lt1 : ∀ x ∈ p1, x.block < W.heap.size := by obtain ⟨m, hm⟩ := k1; exact DataW.trod_lt m _ _ _ hm
  have c1 : len1 ≤ cap1 := by
    obtain ⟨fuel, hf⟩ := h1
    exact incap_of Tryz.underlying23 hf
  obtain ⟨t1, w1⟩ : ∃ ts, InRow 4 Ac10.cells Ac10.ok ac100 W a1 len1 ts := by
    obtain ⟨fuel, hf⟩ := h1
    exact inrow_of 4 Ac10.cells Ac10.ok ac100 23 47 Tryz.underlying23 cellsAc10 (by omega) lenAc10 (fun n cs x => ac10_of n cs x) hf
  obtain ⟨a2, rfl, rfl, rfl, w2⟩ := open_int Tryz.underlying45 (hval 2 45 v2 rfl rfl) h2
  obtain ⟨a3, rfl, rfl, rfl, w3⟩ := open_int Tryz.underlying3 (hval 3 3 v3 rfl rfl) h3
  clear hA0 hval0
  have hE := handle_of_laid hL
  refine (walk a0 len0 cap0 t0 a1 len1 cap1 t1 a2 a3 W hE w0 c0 w1 c1 w2 w3).mono fun e W' ⟨he, bel⟩ => ?_
  subst he
  exact ⟨_, rfl, _, _, _, [], _, [], hW', trodAll_mk1 (shut_bool Tryz.underlying4 _), (trodAll_cons_mk (Below.trod laidOut (by kernel_rfl) (of_decide_eq_true (by kernel_rfl)) k0 bel lt0) (trodAll_cons_mk (Below.trod laidOut (by kernel_rfl) (of_decide_eq_true (by kernel_rfl)) k1 bel lt1) (trodAll_cons_mk (shut_int Tryz.underlying45 w2) (trodAll_cons_mk (shut_int Tryz.underlying3 w3) trodAll_mk0)))), rfl, bel.frame _, fun h => by cases h⟩

theorem over : Rows.idealKnowsRow.holds Tryz.pinned (OpenSpec.ofChange Rows.idealKnowsSpec) :=
  OpenClaim.holds_of_wide 4 Tryz.f4 rfl rfl rfl rfl rfl rfl rfl ⟨rfl, rfl, rfl, rfl, rfl⟩ rfl rfl rfl rfl rfl (by kernel_rfl) Tryz.func4 (by kernel_rfl)
    (of_decide_eq_true (by kernel_rfl)) (by unfold Func.isWrapper; first | (rw [if_pos (by decide +kernel)]; kernel_rfl) | (rw [if_neg (by decide +kernel)]; exact ⟨rfl, rfl⟩))
    (fun os started H enc _ => lifted os started H enc)

theorem card : Rows.IdealKnowsCardSaid :=
  Claim7.holds_tied_plain_at .later [] [.handle] true (true, "170ad6b271f38bc5b5dbb1b4a980e5bb8601c676c340595c17378d516a0c30dd") true
    over (fun _ h => by cases h) (by kernel_rfl) (fun _ h => by cases h) idealKnows_row_tie rfl ⟨rfl, rfl⟩ (by kernel_rfl) rfl
    (fun f fn hf hfn => by
      obtain rfl : f = 4 := Option.some.inj ((show Tryz.prog.funcNamed "wigwag/wigwaglaw11.IdealKnows" = some 4 by kernel_rfl).symm.trans hf) |>.symm
      obtain rfl : fn = Tryz.f4 := (Option.some.inj (Tryz.func4.symm.trans hfn)).symm
      exact ⟨by kernel_rfl, fun j t ht => by
        rw [Tryz.params4] at ht
        have hall : ∀ t ∈ ([22, 23, 45, 3] : List TypeId), Tryz.prog.wantsStandIn t = false := by
          intro t ht
          simp only [List.mem_cons, List.not_mem_nil, or_false] at ht
          rcases ht with rfl | rfl | rfl | rfl <;> kernel_rfl
        exact hall t (by simpa using List.mem_of_getElem? (l := ([22, 23, 45, 3] : List TypeId)) (i := j) (by simpa using ht))⟩)
    (by kernel_rfl)

end Go.Proofs.YtgiiadjocfnhlaaGreatDoor.idealKnows

namespace Go.Proofs.YtgiiadjocfnhlaaGreatDoor
/-- Proved: for every list of places, every list of calls, every place and every number: behind any 40 calls what all should know, whose any place is, any finger, and whether it is so, are as the document says; errors.errorType being laid as the program's text lays it (the card's tie, over the pruned copy). -/
theorem idealKnows_holds : Rows.IdealKnowsCardSaid := idealKnows.card
#print axioms idealKnows_holds
end Go.Proofs.YtgiiadjocfnhlaaGreatDoor
