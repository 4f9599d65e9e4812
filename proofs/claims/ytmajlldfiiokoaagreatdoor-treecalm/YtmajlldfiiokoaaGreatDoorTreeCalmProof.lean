/- Proved: for every list of places, every list of calls, every name and all members: behind any 30 calls and so many rounds the tree of any of the first 12 members that live is one, with the owner as its root, no deeper than there are members; its leaves are members; errors.errorType being laid as the program's text lays it (the card's tie, over the pruned copy).
  The frame is the guide's own shell (proof-skeleton.mjs) at this function; the walk and all ahead of it are mine. -/
import Derived.Test.YtmajlldfiiokoaaGreatDoorRows
import Derived.Test.YtmajlldfiiokoaaGreatDoorChAct
import Derived.Test.YtmajlldfiiokoaaGreatDoorChAll
import Derived.Test.YtmajlldfiiokoaaGreatDoorJoinIdCat
import Derived.Test.YtmajlldfiiokoaaGreatDoorRfM
import Derived.Test.YtmajlldfiiokoaaGreatDoorInCap
import Derived.Test.YtmajlldfiiokoaaGreatDoorRtFix
import Derived.Test.YtmajlldfiiokoaaGreatDoorJoinIdOwn
import Derived.Deep.RegionWith
import Derived.Deep.CutBlock
import Derived.Deep.DeepCutAuto
import Derived.Deep.LoopGhost
import Derived.Deep.RegionHeld3
import Derived.WalkKit
import Derived.WalkLawsBesides
import Derived.ProofKit
import Derived.OpenShut
import Derived.ChangeSame
import Derived.ChangeVars
import Derived.JoinedOf
import Derived.RowKit
import Derived.RowKitTokens
import Derived.LaidLaws
import Derived.LaidHandle
import Derived.Stop.Joined
import Derived.SevenTiedAt
import Derived.Test.YtmajlldfiiokoaaGreatDoorTie
import Derived.Test.YtmajlldfiiokoaaGreatDoorCards
import Derived.ShutString
import Derived.ChangeOld
import Derived.Below
namespace Go.Proofs.YtmajlldfiiokoaaGreatDoor.treeCalm
open Go.ChangeShapes Go.WideShapes Go.ChangeAt Go.RowKit
open Go.ChangeMaps (open_string shut_string)
set_option linter.unusedVariables false

theorem own : ownKnob Tryz.prog.godebug = none := by kernel_rfl
theorem laidOut : laidOutB Tryz.prog = true := by kernel_rfl


theorem et : Tryz.prog.globalNamed "errors.errorType" = some 0 := by kernel_rfl
theorem rt : (Tryz.prog.cutTypes.find? (·.1 == "internal/reflectlite.rtype")).map (·.2) = some 259 := by kernel_rfl
theorem oneRow : ((List.range 332).filter fun t => Tryz.prog.rowNamed t [101, 114, 114, 111, 114]) = [45] := by kernel_rfl
theorem typesSize : Tryz.prog.types.size = 332 := by kernel_rfl
/-- What the tied variable gives a walk: its one cell. -/
theorem handle_of_laid {W : World} (h : laidMetH Tryz.prog Rows.treeCalmRow.laid W) : ErrType W := by
  have h' : laidMet Tryz.prog [] W ∧ handlesMet Tryz.prog Rows.treeCalmRow.laid W := h
  obtain ⟨name, u, ty, e1, e2, e3, e4, e5⟩ := h'.2 _ (List.mem_singleton.2 rfl)
  have en : name = [101, 114, 114, 111, 114] := (Option.some.inj e1).symm
  subst en
  obtain rfl := Option.some.inj (rt.symm.trans e2)
  have hm : ty ∈ (List.range 332).filter fun t => Tryz.prog.rowNamed t [101, 114, 114, 111, 114] := List.mem_filter.2 ⟨List.mem_range.2 (by rw [← typesSize]; exact e3), e4⟩
  rw [oneRow] at hm
  obtain rfl := List.mem_singleton.1 hm
  have hh : typeHandle Tryz.prog 45 = .pointer (some ⟨1, 45, none⟩) := by kernel_rfl
  rw [hh] at e5
  unfold ErrType
  simpa using World.var?_cell et e5 0

/-! ### STEP 1: the walk -/
set_option maxRecDepth 100000 in
set_option maxHeartbeats 20000000 in
theorem walk (a0 : Option Addr) (len0 cap0 : Nat) (t0 : List Int) (a1 : Option Addr) (len1 cap1 : Nat) (t1 : List Ac10) (a2 : ByteArray) (a3 : Option Addr) (len3 cap3 : Nat) (t3 : List Int) (w : World) (hE : ErrType w) (w0 : InRow 1 encU Go.Proofs.YtmajlldfiiokoaaGreatDoor.u64 0 w a0 len0 t0) (c0 : len0 ≤ cap0) (w1 : InRow 4 Ac10.cells Ac10.ok ac100 w a1 len1 t1) (c1 : len1 ≤ cap1) (w2 : a2.size ≤ maxLen) (w3 : InRow 1 encI i64 0 w a3 len3 t3) (c3 : len3 ≤ cap3) :
    Calls Tryz.prog 3 #[.slice a0 len0 cap0, .slice a1 len1 cap1, .string a2, .slice a3 len3 cap3] w fun e w' => e = .returned (.bool true) ∧ Below w.heap.size w w' := by
  obtain ⟨i0, hif, hz0, hz1, hz2⟩ := info_of Tryz.infoInt
  have HMd : Hid _ := made_r a0 len0 cap0 t0 a1 len1 cap1 t1 30 w w0 c0 w1 hE (by omega)
  have HM : Hid (InIn w a3 len3 t3 ∧ t3.length = len3) := ⟨w3, w3.1⟩
  have z3 := w3.2.1
  have z2 := w2
  unfold maxLen at z2
  clear w0 w1 c0 c1 hE w2 w3
  go_enter Tryz.func3, Tryz.ntmps3
  go_wp2_with fail
  refine Calls.mono HMd.out ?_
  clear HMd
  rintro e w3 h3
  rcases h3 with ⟨x0, x1, x2, x3, rfl, hsl, b3⟩ | ⟨r, gp, gk, R, x0, x1, x2, x3, rfl, hsl, hrn, _⟩
  · obtain ⟨⟨p0, p1, p2, rfl⟩, ⟨p3, p4, p5, rfl⟩, ⟨p6, p7, p8, rfl⟩, ⟨p9, p10, p11, rfl⟩⟩ := hsl
    obtain ⟨W4, hW4⟩ : ∃ W4, W4 = w3.alloc (.cells #[.slice p0 p1 p2, .slice p3 p4 p5, .slice p6 p7 p8, .slice p9 p10 p11] 32) := ⟨_, rfl⟩
    have B4 : Hid (Below w.heap.size w W4) := by rw [hW4]; exact b3.trans ((below_one _ _).mono b3.size)
    clear b3
    go_upto_region 2 with fail
    rw [← hW4]
    clear hW4
    go_wp2_with fail
    refine (awake20_any _).mono ?_
    rintro e w5 ⟨rfl, b5⟩
    go_wp2
    go_ret
    exact ⟨rfl, B4.out.trans (b5.mono B4.out.size)⟩
  · obtain ⟨⟨p0, p1, p2, rfl⟩, ⟨p3, p4, p5, rfl⟩, ⟨p6, p7, p8, rfl⟩, ⟨p9, p10, p11, rfl⟩⟩ := hsl
    obtain ⟨W4, hW4⟩ : ∃ W4, W4 = w3.alloc (.cells #[.slice p0 p1 p2, .slice p3 p4 p5, .slice p6 p7 p8, .slice p9 p10 p11] 32) := ⟨_, rfl⟩
    have H4 : Hid (Rn w W4 r gp gk R) := by rw [hW4]; exact hrn.below (below_one _ _)
    clear hrn
    go_upto_region 2 with fail
    rw [← hW4]
    clear hW4
    have hll : R.live.length ≤ 32 := liveTo_len R 32
    obtain ⟨n, hn⟩ : ∃ n, n = R.live.length := ⟨_, rfl⟩
    rw [← hn] at hll
    have HN : Hid (n = R.live.length) := hn
    clear hn
    go_wp2
    go_loopg [12] (4 * n + 8) (fun kx s wr => ∃ j : Nat, s = .int .i64 j ∧ j ≤ 4 * n + 8 ∧ kx = 4 * n + 8 - j ∧ Hid (Rn w wr r gp gk (R.rounds j)))
    case atStart => exact ⟨0, rfl, Nat.zero_le _, rfl, (H4.out : Rn w W4 r gp gk (R.rounds 0))⟩
    case round =>
      obtain ⟨j, rfl, hj, rfl, HB⟩ := hrel
      have HLn : Hid ((R.rounds j).live.length = n) := by show (R.rounds j).live.length = n; rw [(alike_rounds R j).live]; exact HN.out.symm
      by_cases hjl : j < 4 * n + 8
      · have hjl' : (j : Int) < 4 * (n : Int) + 8 := by omega
        go_wp2_with fail
        refine (live_r r gp gk (R.rounds j) _ HB.out.ring).mono ?_
        rintro e w5 ⟨la, lc, rfl, _, _, b5⟩
        rw [HLn.out]
        have H5 : Hid (Rn w w5 r gp gk (R.rounds j)) := HB.out.below b5
        clear b5
        go_wp2_with (first
          | (go_at_call 10; refine (rounds_r n _ (by omega)).mono ?_; rintro e w' ⟨rfl, rfl⟩)
          | (go_at_call 12; refine (round_r r gp gk (R.rounds j) _ H5.out.ring).mono ?_; rintro e w6 ⟨rfl, h6, k6⟩))
        go_roundg (4 * n + 8 - (j + 1))
        case measure => omega
        case rel => exact ⟨j + 1, by go_num, by omega, rfl, (H5.out.step h6 H5.out.inv.round k6 : Rn w w6 r gp gk (R.rounds (j + 1)))⟩
      · obtain rfl : j = 4 * n + 8 := by omega
        have hjl' : ¬ ((4 * n + 8 : Nat) : Int) < 4 * (n : Int) + 8 := by omega
        have hrg := H4.out.inv.calm (m := 4 * n + 8) (by have := HN.out; omega)
        have HRG : Hid (Rgt 3 (R.rounds (4 * n + 8))) := hrg
        clear hrg
        generalize R.rounds (4 * n + 8) = R6 at HB HRG HLn
        obtain ⟨w6, hw6⟩ : ∃ w6, w6 = wr := ⟨_, rfl⟩
        rw [← hw6] at HB ⊢
        clear hw6
        go_wp2_with fail
        refine (live_r r gp gk R6 _ HB.out.ring).mono ?_
        rintro e w7 ⟨la, lc, rfl, _, _, b7⟩
        rw [HLn.out]
        have H7 : Hid (Rn w w7 r gp gk R6) := HB.out.below b7
        clear b7 HB H4 HN
        go_wp2_with fail
        refine (rounds_r n _ (by omega)).mono ?_
        rintro e w' ⟨rfl, hw'⟩
        subst w'
        go_wp2_with fail
        refine (fnew_r w w7 r gp gk R6 H7.out).mono ?_
        rintro e w8 ⟨f, gm, rfl, h8⟩
        have H8 : Hid (Rt w w8 r gp gk f gm R6 (fun _ => [])) := h8
        clear h8 H7
        go_wp2_with fail
        refine (fround_r w w8 r gp gk f gm R6 _ H8.out).mono ?_
        rintro e w9 ⟨rfl, h9⟩
        obtain ⟨G, hG⟩ : ∃ G, G = R6.roundG (fun _ => []) := ⟨_, rfl⟩
        rw [← hG] at h9
        have H9 : Hid (Rt w w9 r gp gk f gm R6 G) := h9
        clear h9 H8 hG
        obtain ⟨W3, hW3⟩ : ∃ W, W = w9.alloc (.cells #[] 3) := ⟨_, rfl⟩
        obtain ⟨qx, hqx⟩ : ∃ q, q = w9.heap.size := ⟨_, rfl⟩
        have H3 : Hid (W3.ownsRow w9.heap.size 3 1 (.slice (some ⟨qx, 0, none⟩) 0 0) 0 ([].map cellI) ∧ Below w9.heap.size w9 W3) := by rw [hW3, hqx]; exact ⟨empty_row (Nat.le_refl _), below_one _ _⟩
        go_upto_region 11 with fail
        rw [← hW3]
        try rw [← hqx]
        clear hW3 hqx
        go_wp2
        go_loopg [14, 15] 12 (fun kx v s wr => ∃ (i : Nat) (xa : Option Addr) (xn xc : Nat), s = .int .i64 i ∧ v = .slice xa xn xc ∧ i ≤ 12 ∧ kx = 12 - i ∧ xn ≤ i ∧ i ≤ len3 ∧ Hid (∃ L, wr.ownsRow w9.heap.size 3 1 (.slice xa xn xc) xn (L.map cellI) ∧ Below w9.heap.size w9 wr ∧ L = (t3.take i).filter (fun m => R6.lives m)))
        case atStart => exact ⟨0, _, 0, 0, rfl, rfl, Nat.zero_le _, rfl, Nat.le_refl _, Nat.zero_le _, ⟨[], H3.out.1, H3.out.2, by simp⟩⟩
        case round =>
          obtain ⟨i, xa, xn, xc, rfl, rfl, hi, rfl, hxi, hil, HBx⟩ := hrel
          obtain ⟨L, hT1, hT2, hT3⟩ := HBx.out
          have HT : Hid (wr.ownsRow w9.heap.size 3 1 (.slice xa xn xc) xn (L.map cellI) ∧ Below w9.heap.size w9 wr ∧ L = (t3.take i).filter (fun m => R6.lives m)) := ⟨hT1, hT2, hT3⟩
          clear HBx hT1 hT2 hT3
          go_upto_region 12 with fail
          go_cut [54] (fun v wx => ∃ bb : Bool, v = .bool bb ∧ (bb = true ↔ i < len3 ∧ i < 12) ∧ wx = wr)
          case first =>
            by_cases h1 : (i : Int) < (len3 : Int)
            · by_cases h2 : (i : Int) < 12
              · go_wp2
                go_meet
                exact ⟨true, by simp, by simp; omega, rfl⟩
              · go_wp2
                go_meet
                exact ⟨false, by simp, by simp; omega, rfl⟩
            · go_wp2
              go_meet
              exact ⟨false, by simp, by simp; omega, rfl⟩
          rename World => Wq
          obtain ⟨bb, rfl, hbb, hwq⟩ := hcut
          subst Wq
          cases bb with
          | true =>
            obtain ⟨hlt, h12⟩ := hbb.1 rfl
            clear hbb
            obtain ⟨mb, mo, hmb, hml, _, hmc⟩ := (HM.out.1.below (Nat.le_refl _) (H9.out.rn.bel.trans (HT.out.2.1.mono H9.out.rn.bel.size))).one (v := Value.int .i64) (fun _ => rfl) (i := i) hlt
            subst hmb
            have hsn := take_snocI t3 (j := i) (by rw [HM.out.2]; exact hlt)
            obtain ⟨y, hy⟩ : ∃ y, y = t3.getD i 0 := ⟨_, rfl⟩
            rw [← hy] at hmc hsn
            have HSN : Hid (t3.take (i + 1) = t3.take i ++ [y]) := hsn
            clear hy hsn
            go_wp2_with fail
            refine (lives_r r gp gk R6 y _ (H9.out.rn.ring.below HT.out.2.1)).mono ?_
            rintro e w4 ⟨rfl, b4⟩
            have H4b : Hid (w4.ownsRow w9.heap.size 3 1 (.slice xa xn xc) xn (L.map cellI) ∧ Below w9.heap.size w9 w4) := ⟨row_at HT.out.1 (fun z hz => b4.block _ (World.ownsRow.lt HT.out.1 z hz).2), HT.out.2.1.trans (b4.mono HT.out.2.1.size)⟩
            replace hmc := cell_grown hmc b4
            replace hml := cell_block hmc
            clear b4
            cases hlv : R6.lives y with
            | false =>
              have HLf : Hid (L = (t3.take (i + 1)).filter (fun m => R6.lives m)) := by
                show L = _
                rw [HSN.out, List.filter_append, ← HT.out.2.2]; simp [hlv]
              clear hlv
              go_wp2
              go_roundg (12 - (i + 1))
              case measure => omega
              case rel => exact ⟨i + 1, xa, xn, xc, by go_num, rfl, by omega, rfl, by omega, by omega, ⟨L, H4b.out.1, H4b.out.2, HLf.out⟩⟩
            | true =>
              have HLf : Hid (L ++ [y] = (t3.take (i + 1)).filter (fun m => R6.lives m)) := by
                show L ++ [y] = _
                rw [HSN.out, List.filter_append, ← HT.out.2.2]; simp [hlv]
              clear hlv
              have HA : Hid ((w4.alloc (.cells #[.int .i64 y] 3)).ownsRow w9.heap.size 3 1 (.slice xa xn xc) xn (L.map cellI)) := row_at H4b.out.1 (fun z hz => Below.heap_alloc _ _ _ (World.ownsRow.lt H4b.out.1 z hz).2)
              have HSz : Hid (w9.heap.size ≤ w4.heap.size) := H4b.out.2.size
              go_wp2_with (at_builtin; go_loud (refine wpList_own_append _ rfl _ _ 24 24 rfl w9.heap.size 3 i0 _ 8 Tryz.underlying24 hif hz0 hz1 hz2 rfl _ _ _ rfl HA.out _ 1 [cellI y] rfl (src_oneT w4 y) (by unfold maxLen; omega) (by omega) (by have := HSz.out; simp; omega) ?_))
              intro v' w6 ha
              obtain ⟨x6, k6, rfl⟩ := ha.shape
              have H6 : Hid (w6.ownsRow w9.heap.size 3 1 (.slice x6 (xn + 1) k6) (xn + 1) ((L ++ [y]).map cellI) ∧ Below w9.heap.size w9 w6) := by
                refine ⟨by rw [List.map_append]; exact ha.row, ?_⟩
                have b := H4b.out.2.alloc H4b.out.2.size (.cells #[.int .i64 y] 3)
                exact b.grown ha.grown b.size (fun k hk => (World.ownsRow.lt HA.out k hk).1)
              clear ha HA HSz
              go_wp2
              go_roundg (12 - (i + 1))
              case measure => omega
              case rel => exact ⟨i + 1, x6, xn + 1, k6, by go_num, rfl, by omega, rfl, by omega, by omega, ⟨L ++ [y], H6.out.1, H6.out.2, HLf.out⟩⟩
          | false =>
            clear hbb
            have hlv : ∀ m ∈ L, R6.lives m = true := fun m hm => by
              rw [HT.out.2.2] at hm; simpa using (List.mem_filter.1 hm).2
            have HLV : Hid (∀ m ∈ L, R6.lives m = true) := hlv
            have hrg : ∀ m ∈ L, i64 m := fun m hm => by have := HRG.out.1.rng m (hlv m hm); unfold i64; omega
            have hx12 : xn ≤ 12 := by omega
            have HIN : Hid (InIn wr xa xn L) := in_of_own HT.out.1 hrg (by omega)
            obtain ⟨WE, hWE⟩ : ∃ W, W = wr := ⟨_, rfl⟩
            rw [← hWE] at HIN HT
            have HE9 : Hid (Rt w WE r gp gk f gm R6 G) := H9.out.below HT.out.2.1
            go_upto_if 72 with fail
            rw [← hWE]
            go_cut [2] (fun v wx => ∃ s : ByteArray, v = .string s ∧ s.size ≤ 60 ∧ wx = WE)
            case first =>
              by_cases h : 60 < a2.size
              · go_wp2
                go_meet
                exact ⟨_, rfl, by simp; omega, by first | rfl | exact hWE.symm⟩
              · go_wp2
                go_meet
                exact ⟨a2, rfl, by omega, by first | rfl | exact hWE.symm⟩
            case rest =>
              rename World => W1
              obtain ⟨nm, rfl, hnm, hw1⟩ := hcut
              subst W1
              clear hWE HT hlv hrg hi hxi hil H9 HM z2 z3
              obtain ⟨C, hC⟩ := cir_ex HRG.out.1
              obtain ⟨ro, hcv, _⟩ := conv_ring HRG.out hC G (gkey_plc nm)
              have HCV : Hid (Conv (nxR R6 G (gkeyT nm)) (fun n => R6.lives n = true) (R6.nextTo G (gkeyT nm)) ro) := hcv
              have HOWN : Hid (∀ W, Below WE.heap.size WE W → Calls Tryz.prog 18 #[.pointer (some ⟨r, 0, none⟩)] W fun e w' => ∃ (g : Nat) (b : Option Addr) (c d : Nat), e = .returned (.agg #[.slice (some ⟨g, 0, none⟩) n c, .slice b n d]) ∧ Below W.heap.size W w' ∧
                  ∀ W', Below w'.heap.size w' W' → Calls Tryz.prog 33 #[.agg #[.slice (some ⟨g, 0, none⟩) n c, .slice b n d], .int .u64 (gkeyT nm)] W' fun e w9 => e = .returned (.int .i64 ro) ∧ Below W'.heap.size W' w9) := fun W hW => by
                have := owner_is HRG.out G (gkey_plc nm) HCV.out r gp gk W (HE9.out.rn.ring.below hW)
                rw [HLn.out] at this
                exact this
              have HOF := tree_of WE _ _ _ _ nm xa xn xc L (by omega) HIN.out (wk_ring WE r gp gk f gm R6 G (gkeyT nm) HE9.out.rn.ring HE9.out.fg HRG.out.1) (nxR_neg HRG.out.1 _ _) (by omega)
              have HFW : Hid (∀ t, TrOk (nxR R6 G (gkeyT nm)) t → TrFew R6 t) := fun t ht => few_ring HRG.out.1 ht
              clear hC hcv
              generalize (nxR R6 G (gkeyT nm)) = nx at HCV HOF HFW
              obtain ⟨z1, T1⟩ := HCV.out.tree L HLV.out
              have HTT : Hid ((treeOf nx L).1 = 0 ∧ TrIs nx (R6.nextTo G (gkeyT nm)) ro L (treeOf nx L).2) := ⟨z1, T1⟩
              clear z1 T1
              generalize treeOf nx L = tr1 at HTT HOF
              obtain ⟨e1, A⟩ := tr1
              simp only at HTT HOF
              obtain ⟨r2, u1⟩ := A
              have HOA : Hid _ := HOF
              clear HOF
              go_wp2_with fail
              refine Calls.mono HOA.out ?_
              clear HOA
              rintro e w5 ⟨h5, b5⟩
              rcases h5 with ⟨h, _⟩ | ⟨_, g1, rfl, hu1⟩
              · exact absurd HTT.out.1 h
              (try simp only at hu1)
              obtain ⟨W6, hW6⟩ : ∃ W, W = w5.alloc (.cells #[.int .i64 r2, .map (some g1)] 43) := ⟨_, rfl⟩
              obtain ⟨qa, hqa⟩ : ∃ q, q = w5.heap.size := ⟨_, rfl⟩
              have b6 : Below w5.heap.size w5 W6 := by rw [hW6]; exact below_one _ _
              have p0 : W6.cell? ⟨qa, 0, none⟩ = some (.int .i64 r2) := by rw [hW6, hqa]; exact World.cell?_alloc_new ..
              have p1 : W6.cell? ⟨qa, 1, none⟩ = some (.map (some g1)) := by rw [hW6, hqa]; simp
              have pl := cell_block p0
              have H6 : Hid (Below WE.heap.size WE W6 ∧ UpAt W6 g1 u1) := ⟨b5.trans (b6.mono b5.size), UpAt.below (m := u1) hu1 b6⟩
              have HF1 : Hid (TrFew R6 ⟨r2, u1⟩) := HFW.out _ HTT.out.2.ok
              clear b5 b6 hu1 HFW
              go_upto_region 19 with fail
              rw [← hW6]
              try rw [← hqa]
              clear hW6 hqa
              go_cut [92] (fun v wx => v = .bool false ∧ Hid (Below W6.heap.size W6 wx))
              case first =>
                have h00 : chkV 0 = .nilIface := rfl
                go_region_held3 (fun W' => W'.cell? ⟨qa, 0, none⟩ = some (.int .i64 r2) ∧ W'.cell? ⟨qa, 1, none⟩ = some (.map (some g1)))
                  (first
                    | go_keep
                    | assumption)
                  (first
                    | (go_at_call 18; refine Calls.mono (HOWN.out _ ?_) ?_; exact H6.out.1.trans (show Below WE.heap.size W6 _ from ⟨rfl, rfl, rfl, Nat.le_refl _, fun _ _ => rfl⟩)
                       rintro e wM ⟨gc, b, c, d, rfl, hM, hOw⟩
                       have hB' : Below W6.heap.size W6 wM := ⟨hM.os, hM.tape, hM.output, hM.size, hM.block⟩
                       have HOW : Hid _ := hOw
                       have BM : Hid (Below W6.heap.size W6 wM) := hB'
                       have zm0 := cell_grown p0 hB'
                       have zm1 := cell_grown p1 hB'
                       have zml := cell_block zm0
                       clear hM hB' hOw)
                    | (go_at_call 17; refine Calls.mono (check_any ⟨r2, u1⟩ g1 gc n c b d nm ro 0 _ (H6.out.2.below BM.out) HF1.out.len HF1.out.key (by omega) (fun W' hW' => HOW.out W' hW') (HTT.out.2.check HCV.out HLV.out)) ?_
                       rintro e wM ⟨rfl, hM⟩
                       have hB' := BM.out.trans (hM.mono BM.out.size)
                       have BM : Hid (Below W6.heap.size W6 wM) := hB'
                       have zm0 := cell_grown p0 hB'
                       have zm1 := cell_grown p1 hB'
                       have zml := cell_block zm0
                       clear hM hB'))
                all_goals
                  go_wp2
                  go_meet
                  exact ⟨by simp, BM⟩
              case rest =>
                rename World => W9
                obtain ⟨rfl, HC⟩ := hcut
                have H9b : Hid (Below WE.heap.size WE W9 ∧ UpAt W9 g1 u1) := ⟨H6.out.1.trans (HC.out.mono H6.out.1.size), H6.out.2.below HC.out⟩
                replace p0 := cell_grown p0 HC.out
                replace p1 := cell_grown p1 HC.out
                replace pl := cell_block p0
                clear HC H6 HOWN
                obtain ⟨L1, hp1, hm1⟩ := HTT.out.2.ok.nodes_ex
                have HL1 : Hid (L1.Pairwise (· < ·) ∧ ∀ x, x ∈ L1 ↔ (⟨r2, u1⟩ : Tr).inT x) := ⟨hp1, hm1⟩
                clear hp1 hm1
                go_wp2_with fail
                refine Calls.mono (nodes_c (t := ⟨r2, u1⟩) HL1.out.1 HL1.out.2 _ H9b.out.2 HF1.out.len HF1.out.key HF1.out.rot HTT.out.2.ok) ?_
                rintro e wA ⟨⟨xd, xe, rfl, hin9⟩, b9⟩
                have HA9 : Hid (Below WE.heap.size WE wA ∧ InIn wA xd L1.length L1 ∧ UpAt wA g1 u1) := ⟨H9b.out.1.trans (b9.mono H9b.out.1.size), hin9, H9b.out.2.below b9⟩
                have hn9 := hin9.2.1
                obtain ⟨n1, hn1⟩ : ∃ n, n = L1.length := ⟨_, rfl⟩
                rw [← hn1] at hn9 ⊢
                have HN1 : Hid (n1 = L1.length) := hn1
                replace p0 := cell_grown p0 b9
                replace p1 := cell_grown p1 b9
                replace pl := cell_block p0
                clear hin9 b9 hn1 H9b
                have hn0 : n ≤ 32 := by have := liveTo_len R6 32; have h := HLn.out; show n ≤ 32; rw [← h]; exact this
                go_wp2
                go_loopg [96] n1 (fun kx s wr => ∃ j : Nat, s = .int .i64 j ∧ j ≤ n1 ∧ kx = n1 - j ∧ Hid (Below wA.heap.size wA wr))
                case atStart => exact ⟨0, rfl, Nat.zero_le _, rfl, (Below.refl _ _ : Below wA.heap.size wA wA)⟩
                case round =>
                  rename World => wB
                  obtain ⟨j, rfl, hj, rfl, HBn⟩ := hrel
                  have p00 := cell_grown p0 HBn.out
                  have p11 := cell_grown p1 HBn.out
                  have p22 := cell_block p00
                  have HUB : Hid (UpAt wB g1 u1) := HA9.out.2.2.below HBn.out
                  by_cases hjl : j < n1
                  · have hjlI : (j : Int) < (n1 : Int) := by omega
                    obtain ⟨mb, mo, hmb, hml, _, hmc⟩ := (HA9.out.2.1.below (Nat.le_refl _) HBn.out).one (v := Value.int .i64) (fun _ => rfl) (i := j) (by have := HN1.out; omega)
                    subst hmb
                    have hmem : L1.getD j 0 ∈ L1 := by rw [List.getD_eq_getElem?_getD, List.getElem?_eq_getElem (by have := HN1.out; omega)]; simp
                    obtain ⟨y, hy⟩ : ∃ y, y = L1.getD j 0 := ⟨_, rfl⟩
                    rw [← hy] at hmc hmem
                    clear hy
                    have HIN2 : Hid ((⟨r2, u1⟩ : Tr).inT y) := (HL1.out.2 y).1 hmem
                    obtain ⟨kd, hkd, hkn⟩ := HTT.out.2.deep HCV.out (live := R6.live) (fun m hm => (mem_live R6 m).2 ⟨(HRG.out.1.rng m hm).1, (HRG.out.1.rng m hm).2, hm⟩) HLV.out HIN2.out
                    rw [HLn.out] at hkn
                    have HKD : Hid ((⟨r2, u1⟩ : Tr).depth y = (kd : Int)) := hkd
                    have hk0 : ¬ (kd : Int) < 0 := by omega
                    have hk1 : ¬ (n : Int) ≤ (kd : Int) := by omega
                    clear hmem hkd
                    go_wp2_with fail
                    refine (depth_any ⟨r2, u1⟩ g1 y _ HUB.out HF1.out.len).mono ?_
                    rintro e wC ⟨rfl, bC⟩
                    rw [HKD.out]
                    have q00 := cell_grown p00 bC
                    have q11 := cell_grown p11 bC
                    have q22 := cell_block q00
                    have HBC : Hid (Below wB.heap.size wB wC) := bC
                    clear bC
                    go_wp2_with fail
                    refine (depth_any ⟨r2, u1⟩ g1 y _ (HUB.out.below HBC.out) HF1.out.len).mono ?_
                    rintro e wD ⟨rfl, bD⟩
                    rw [HKD.out]
                    have HBD : Hid (Below wB.heap.size wB wD) := HBC.out.trans (bD.mono HBC.out.size)
                    clear bD q00 q11 q22
                    go_wp2_with fail
                    refine (live_r r gp gk R6 _ ((HE9.out.rn.ring.below (HA9.out.1.trans (HBn.out.mono HA9.out.1.size))).below HBD.out)).mono ?_
                    rintro e wF ⟨lb, ld, rfl, _, _, bF⟩
                    rw [HLn.out]
                    have HBF : Hid (Below wB.heap.size wB wF) := HBD.out.trans (bF.mono HBD.out.size)
                    have q00 := cell_grown p00 HBF.out
                    have q11 := cell_grown p11 HBF.out
                    have q22 := cell_block q00
                    clear bF
                    obtain ⟨Lc, hpc, hmm⟩ := HTT.out.2.ok.childs_ex y
                    have HLC : Hid (Lc.Pairwise (· < ·) ∧ ∀ x, x ∈ Lc ↔ lookI u1 x = some y) := ⟨hpc, hmm⟩
                    clear hpc hmm
                    go_wp2_with fail
                    refine (childs_c (t := ⟨r2, u1⟩) HLC.out.1 HLC.out.2 _ (HUB.out.below HBF.out) HF1.out.len HF1.out.key).mono ?_
                    rintro e wG ⟨⟨ca, cc, rfl, hinc⟩, bG⟩
                    have HBG : Hid (Below wB.heap.size wB wG) := HBF.out.trans (bG.mono HBF.out.size)
                    have hLc := hinc.2.1
                    clear bG hinc q00 q11 q22
                    by_cases hc0 : Lc.length = 0
                    · have e0 : ((Lc.length : Int) == 0) = true := by simp [hc0]
                      have HMEM : Hid (decide (y ∈ L) = true) := by
                        show _ = true
                        simp only [decide_eq_true_eq]
                        refine HTT.out.2.leaf HCV.out HLV.out HIN2.out (fun x hx => ?_)
                        have := (HLC.out.2 x).2 hx
                        rw [List.eq_nil_of_length_eq_zero hc0] at this
                        cases this
                      have hwe : Hid (InIn wG xa xn L) := by
                        have b := HA9.out.1.trans (HBn.out.mono HA9.out.1.size)
                        exact HIN.out.below (Nat.le_refl _) (b.trans (HBG.out.mono b.size))
                      clear hc0
                      go_wp2_with (go_at_call 22; refine (among_any _ _ _ L y _ hwe.out).mono ?_; rintro e w' ⟨rfl, hw'⟩; subst w'; rw [HMEM.out])
                      go_roundg (n1 - (j + 1))
                      case measure => omega
                      case rel => exact ⟨j + 1, by go_num, by omega, rfl, (HBn.out.trans (HBG.out.mono HBn.out.size) : Below wA.heap.size wA wG)⟩
                    · have e0 : ((Lc.length : Int) == 0) = false := by simp; exact fun e => hc0 (by rw [e]; rfl)
                      clear hc0
                      go_wp2
                      go_roundg (n1 - (j + 1))
                      case measure => omega
                      case rel => exact ⟨j + 1, by go_num, by omega, rfl, (HBn.out.trans (HBG.out.mono HBn.out.size) : Below wA.heap.size wA wG)⟩
                  · go_wp2
                    go_loopg [127] xn (fun kx s wr => ∃ j : Nat, s = .int .i64 j ∧ j ≤ xn ∧ kx = xn - j ∧ Hid (Below wB.heap.size wB wr))
                    case atStart => exact ⟨0, rfl, Nat.zero_le _, rfl, (Below.refl _ _ : Below wB.heap.size wB wB)⟩
                    case round =>
                      rename World => wC
                      obtain ⟨k, rfl, hk, rfl, HBk⟩ := hrel
                      have q00 := cell_grown p00 HBk.out
                      have q11 := cell_grown p11 HBk.out
                      have q22 := cell_block q00
                      have HWC : Hid (Below WE.heap.size WE wC) := by
                        have b := HA9.out.1.trans (HBn.out.mono HA9.out.1.size)
                        exact b.trans (HBk.out.mono b.size)
                      by_cases hkl : k < xn
                      · have hklI : (k : Int) < (xn : Int) := by omega
                        obtain ⟨mb, mo, hmb, hml, _, hmc⟩ := (HIN.out.below (Nat.le_refl _) HWC.out).one (v := Value.int .i64) (fun _ => rfl) (i := k) hkl
                        subst hmb
                        have hmem : L.getD k 0 ∈ L := by rw [List.getD_eq_getElem?_getD, List.getElem?_eq_getElem (by rw [HIN.out.1]; exact hkl)]; simp
                        obtain ⟨y, hy⟩ : ∃ y, y = L.getD k 0 := ⟨_, rfl⟩
                        rw [← hy] at hmc hmem
                        clear hy
                        obtain ⟨kd, hkd, _⟩ := HTT.out.2.deep HCV.out (live := R6.live) (fun m hm => (mem_live R6 m).2 ⟨(HRG.out.1.rng m hm).1, (HRG.out.1.rng m hm).2, hm⟩) HLV.out (a := y) ((HTT.out.2.nodes y).2 ⟨y, hmem, 0, rfl⟩)
                        have HKD : Hid ((⟨r2, u1⟩ : Tr).depth y = (kd : Int)) := hkd
                        have hk0 : ¬ (kd : Int) < 0 := by omega
                        clear hmem hkd
                        go_wp2_with fail
                        refine (depth_any ⟨r2, u1⟩ g1 y _ (HUB.out.below HBk.out) HF1.out.len).mono ?_
                        rintro e wD ⟨rfl, bD⟩
                        rw [HKD.out]
                        have HBD : Hid (Below wB.heap.size wB wD) := HBk.out.trans (bD.mono HBk.out.size)
                        clear bD q00 q11 q22
                        go_wp2
                        go_roundg (xn - (k + 1))
                        case measure => omega
                        case rel => exact ⟨k + 1, by go_num, by omega, rfl, HBD⟩
                      · go_wp2_with (go_at_call 9; refine (awake20_any _).mono ?_; rintro e wD ⟨rfl, bD⟩)
                        go_ret
                        have b := HE9.out.rn.bel.trans (HWC.out.mono HE9.out.rn.bel.size)
                        exact ⟨rfl, b.trans (bD.mono b.size)⟩

/-! ### The row's step -/
set_option maxRecDepth 100000 in
theorem lifted (os : Os) (started : os.Started) (H : Type) (enc : TypeId × Value → H) :
    ReturnsInHanded {} Tryz.checked os 3 .any (fun w args => (Rows.treeCalmSpec.pre enc Tryz.prog Tryz.f3 [] false w args ∧ laidMetH Tryz.prog Rows.treeCalmRow.laid w) ∧ sizedMet enc Tryz.prog Tryz.f3 (OpenSpec.ofChange Rows.treeCalmSpec) false w args) (Rows.treeCalmSpec.post enc Tryz.prog Tryz.f3 false true false false) := by
  refine returnsInHanded_of_change_and (C := Tryz.checked) (X := fun w _ => laidMetH Tryz.prog Rows.treeCalmRow.laid w) (fun _ _ _ hh h => h.of_heap hh) own started (by kernel_rfl) Tryz.func3
    (ChangeSpec.witness_at (enc := enc) (C := Tryz.checked) (os := os) (X := fun w _ => laidMetH Tryz.prog Rows.treeCalmRow.laid w) false ({ World.holding Tryz.prog os ⟨#[], #[], []⟩ with heap := (World.holding Tryz.prog os ⟨#[], #[], []⟩).heap.modify 0 fun | .cells _ t frozen => .cells #[.iface 259 (.agg #[.pointer (some ⟨1, 45, none⟩)])] t frozen | o => o }) #[.slice none 0 0, .slice none 0 0, .string ByteArray.empty, .slice none 0 0] 8 rfl (by kernel_rfl) (by kernel_rfl) (by kernel_rfl) (by kernel_rfl) (by kernel_rfl) (laidMetH_of_parts (laidMet_nil _ _) (by kernel_rfl))) ?_
  intro W base args ds gs before hval0 hW _ _ hL _
  have hval : ∀ (j : Nat) t v, Tryz.f3.params[j]? = some t → args[j]? = some v → Value.okWide Tryz.prog W .any base t v := hval0
  have hW' := hW
  obtain ⟨p, q, hA0, hV, rfl, hfz, hnd⟩ := hW
  have hA : DataW.TrodAll enc Tryz.prog W 0 (fun _ => true) true Tryz.f3.params.toList args.toList ds p := hA0
  rw [Tryz.params3] at hA hval
  obtain ⟨v0, vs0, d0, ds0, p0, q0, hargs, rfl, rfl, h0, r0⟩ := trodAll_cons hA
  obtain ⟨v1, vs1, d1, ds1, p1, q1, rfl, rfl, rfl, h1, r1⟩ := trodAll_cons r0
  obtain ⟨v2, vs2, d2, ds2, p2, q2, rfl, rfl, rfl, h2, r2⟩ := trodAll_cons r1
  obtain ⟨v3, vs3, d3, ds3, p3, q3, rfl, rfl, rfl, h3, r3⟩ := trodAll_cons r2
  obtain ⟨rfl, rfl, rfl⟩ := trodAll_nil r3
  obtain rfl : args = #[v0, v1, v2, v3] := by cases args; simp_all
  obtain ⟨rfl, rfl⟩ := trodVars_none hV
  obtain ⟨a0, len0, cap0, rfl⟩ := okWide_slice Tryz.underlying22 (hval 0 22 v0 rfl rfl)
  have k0 := h0
  have lt0 : ∀ x ∈ p0, x.block < W.heap.size := by obtain ⟨m, hm⟩ := k0; exact DataW.trod_lt m _ _ _ hm
  have c0 : len0 ≤ cap0 := by
    obtain ⟨fuel, hf⟩ := h0
    exact incap_of Tryz.underlying22 hf
  obtain ⟨t0, w0⟩ : ∃ ts, InRow 1 encU Go.Proofs.YtmajlldfiiokoaaGreatDoor.u64 0 W a0 len0 ts := by
    obtain ⟨fuel, hf⟩ := h0
    exact inrow_of 1 encU Go.Proofs.YtmajlldfiiokoaaGreatDoor.u64 0 22 59 Tryz.underlying22 cellsU1 (by omega) lenU (fun n cs x => uid_of n cs x) hf
  obtain ⟨a1, len1, cap1, rfl⟩ := okWide_slice Tryz.underlying23 (hval 1 23 v1 rfl rfl)
  have k1 := h1
  have lt1 : ∀ x ∈ p1, x.block < W.heap.size := by obtain ⟨m, hm⟩ := k1; exact DataW.trod_lt m _ _ _ hm
  have c1 : len1 ≤ cap1 := by
    obtain ⟨fuel, hf⟩ := h1
    exact incap_of Tryz.underlying23 hf
  obtain ⟨t1, w1⟩ : ∃ ts, InRow 4 Ac10.cells Ac10.ok ac100 W a1 len1 ts := by
    obtain ⟨fuel, hf⟩ := h1
    exact inrow_of 4 Ac10.cells Ac10.ok ac100 23 61 Tryz.underlying23 cellsAc10 (by omega) lenAc10 (fun n cs x => ac10_of n cs x) hf
  obtain ⟨a2, rfl, rfl, rfl, w2⟩ := open_string Tryz.underlying9 (hval 2 9 v2 rfl rfl) h2
  obtain ⟨a3, len3, cap3, rfl⟩ := okWide_slice Tryz.underlying24 (hval 3 24 v3 rfl rfl)
  have k3 := h3
  have lt3 : ∀ x ∈ p3, x.block < W.heap.size := by obtain ⟨m, hm⟩ := k3; exact DataW.trod_lt m _ _ _ hm
  have c3 : len3 ≤ cap3 := by
    obtain ⟨fuel, hf⟩ := h3
    exact incap_of Tryz.underlying24 hf
  obtain ⟨t3, w3⟩ : ∃ ts, InRow 1 encI i64 0 W a3 len3 ts := by
    obtain ⟨fuel, hf⟩ := h3
    exact inrow_of 1 encI i64 0 24 3 Tryz.underlying24 cellsI1 (by omega) lenI (fun n cs x => int_of n cs x) hf
  clear hA0 hval0
  have hE := handle_of_laid hL
  refine (walk a0 len0 cap0 t0 a1 len1 cap1 t1 a2 a3 len3 cap3 t3 W hE w0 c0 w1 c1 w2 w3 c3).mono fun e W' ⟨he, bel⟩ => ?_
  subst he
  exact ⟨_, rfl, _, _, _, [], _, [], hW', trodAll_mk1 (shut_bool Tryz.underlying4 _), (trodAll_cons_mk (Below.trod laidOut (by kernel_rfl) (of_decide_eq_true (by kernel_rfl)) k0 bel lt0) (trodAll_cons_mk (Below.trod laidOut (by kernel_rfl) (of_decide_eq_true (by kernel_rfl)) k1 bel lt1) (trodAll_cons_mk (shut_string Tryz.underlying9 w2) (trodAll_cons_mk (Below.trod laidOut (by kernel_rfl) (of_decide_eq_true (by kernel_rfl)) k3 bel lt3) trodAll_mk0)))), rfl, bel.frame _, fun h => by cases h⟩

theorem over : Rows.treeCalmRow.holds Tryz.pinned (OpenSpec.ofChange Rows.treeCalmSpec) :=
  OpenClaim.holds_of_wide 3 Tryz.f3 rfl rfl rfl rfl rfl rfl rfl ⟨rfl, rfl, rfl, rfl, rfl⟩ rfl rfl rfl rfl rfl (by kernel_rfl) Tryz.func3 (by kernel_rfl)
    (of_decide_eq_true (by kernel_rfl)) (by unfold Func.isWrapper; first | (rw [if_pos (by decide +kernel)]; kernel_rfl) | (rw [if_neg (by decide +kernel)]; exact ⟨rfl, rfl⟩))
    (fun os started H enc _ => lifted os started H enc)

theorem card : Rows.TreeCalmCardSaid :=
  Claim7.holds_tied_plain_at .later [] [.handle] true (true, "a510ebdd746ea4e7bc88118e1607cd1f97c2f7db3547122bd42d2837063a2fe1") true
    over (fun _ h => by cases h) (by kernel_rfl) (fun _ h => by cases h) treeCalm_row_tie rfl ⟨rfl, rfl⟩ (by kernel_rfl) rfl
    (fun f fn hf hfn => by
      obtain rfl : f = 3 := Option.some.inj ((show Tryz.prog.funcNamed "wigwag/wigwaglaw20.TreeCalm" = some 3 by kernel_rfl).symm.trans hf) |>.symm
      obtain rfl : fn = Tryz.f3 := (Option.some.inj (Tryz.func3.symm.trans hfn)).symm
      exact ⟨by kernel_rfl, fun j t ht => by
        rw [Tryz.params3] at ht
        have hall : ∀ t ∈ ([22, 23, 9, 24] : List TypeId), Tryz.prog.wantsStandIn t = false := by
          intro t ht
          simp only [List.mem_cons, List.not_mem_nil, or_false] at ht
          rcases ht with rfl | rfl | rfl | rfl <;> kernel_rfl
        exact hall t (by simpa using List.mem_of_getElem? (l := ([22, 23, 9, 24] : List TypeId)) (i := j) (by simpa using ht))⟩)
    (by kernel_rfl)

end Go.Proofs.YtmajlldfiiokoaaGreatDoor.treeCalm

namespace Go.Proofs.YtmajlldfiiokoaaGreatDoor
/-- Proved: for every list of places, every list of calls, every name and all members: behind any 30 calls and so many rounds the tree of any of the first 12 members that live is one, with the owner as its root, no deeper than there are members; its leaves are members; errors.errorType being laid as the program's text lays it (the card's tie, over the pruned copy). -/
theorem treeCalm_holds : Rows.TreeCalmCardSaid := treeCalm.card
#print axioms treeCalm_holds
end Go.Proofs.YtmajlldfiiokoaaGreatDoor
