/- Proved: for every list that says who is next, every name and all members (of the lists the first 12, of the name the first 60 bytes): the tree is the document's, or refused as it is, and all that it says is what the document's tree says; errors.errorType being laid as the program's text lays it (the card's tie, over the pruned copy).
  The frame is the guide's own shell (proof-skeleton.mjs) at this function; the walk and all ahead of it are mine. -/
import Derived.Test.YtefaigdanoninaaDoorRows
import Derived.Test.YtefaigdanoninaaDoorTrSel
import Derived.Test.YtefaigdanoninaaDoorInCap
import Derived.Test.YtefaigdanoninaaDoorOfCode
import Derived.Deep.CutBlock
import Derived.Deep.DeepCutAuto
import Derived.Deep.LoopGhost
import Derived.Deep.RegionHeld3
import Derived.WalkKit
import Derived.WalkLawsBesides
import Derived.ProofKit
import Derived.OpenShut
import Derived.ChangeSame
import Derived.ChangeVars
import Derived.JoinedOf
import Derived.RowKit
import Derived.RowKitTokens
import Derived.LaidLaws
import Derived.LaidHandle
import Derived.Stop.Joined
import Derived.SevenTiedAt
import Derived.Test.YtefaigdanoninaaDoorTie
import Derived.Test.YtefaigdanoninaaDoorCards
import Derived.ShutString
import Derived.ChangeOld
import Derived.Below
namespace Go.Proofs.YtefaigdanoninaaDoor.treePlays
open Go.ChangeShapes Go.WideShapes Go.ChangeAt Go.RowKit
open Go.ChangeMaps (open_string shut_string)
set_option linter.unusedVariables false

theorem own : ownKnob Tryd.prog.godebug = none := by kernel_rfl
theorem laidOut : laidOutB Tryd.prog = true := by kernel_rfl


theorem et : Tryd.prog.globalNamed "errors.errorType" = some 0 := by kernel_rfl
theorem rt : (Tryd.prog.cutTypes.find? (·.1 == "internal/reflectlite.rtype")).map (·.2) = some 79 := by kernel_rfl
theorem oneRow : ((List.range 141).filter fun t => Tryd.prog.rowNamed t [101, 114, 114, 111, 114]) = [27] := by kernel_rfl
theorem typesSize : Tryd.prog.types.size = 141 := by kernel_rfl
/-- What the tied variable gives a walk: its one cell. -/
theorem handle_of_laid {W : World} (h : laidMetH Tryd.prog Rows.treePlaysRow.laid W) : ErrType W := by
  have h' : laidMet Tryd.prog [] W ∧ handlesMet Tryd.prog Rows.treePlaysRow.laid W := h
  obtain ⟨name, u, ty, e1, e2, e3, e4, e5⟩ := h'.2 _ (List.mem_singleton.2 rfl)
  have en : name = [101, 114, 114, 111, 114] := (Option.some.inj e1).symm
  subst en
  obtain rfl := Option.some.inj (rt.symm.trans e2)
  have hm : ty ∈ (List.range 141).filter fun t => Tryd.prog.rowNamed t [101, 114, 114, 111, 114] := List.mem_filter.2 ⟨List.mem_range.2 (by rw [← typesSize]; exact e3), e4⟩
  rw [oneRow] at hm
  obtain rfl := List.mem_singleton.1 hm
  have hh : typeHandle Tryd.prog 27 = .pointer (some ⟨1, 27, none⟩) := by kernel_rfl
  rw [hh] at e5
  unfold ErrType
  simpa using World.var?_cell et e5 0

/-! ### STEP 1: the walk -/
set_option maxRecDepth 100000 in
set_option maxHeartbeats 20000000 in
theorem walk (a0 : Option Addr) (len0 cap0 : Nat) (t0 : List Int) (a1 : ByteArray) (a2 : Option Addr) (len2 cap2 : Nat) (t2 : List Int) (w : World) (hE : ErrType w) (w0 : InRow 1 encI i64 0 w a0 len0 t0) (c0 : len0 ≤ cap0) (w1 : a1.size ≤ maxLen) (w2 : InRow 1 encI i64 0 w a2 len2 t2) (c2 : len2 ≤ cap2) :
    Calls Tryd.prog 3 #[.slice a0 len0 cap0, .string a1, .slice a2 len2 cap2] w fun e w' => e = .returned (.bool true) ∧ Below w.heap.size w w' := by
  go_enter Tryd.func3, Tryd.ntmps3
  have HE : Hid (ErrType w) := hE
  have HA0 : Hid (InIn w a0 len0 t0 ∧ len0 ≤ cap0) := ⟨w0, c0⟩
  have HA2 : Hid (InIn w a2 len2 t2 ∧ len2 ≤ cap2) := ⟨w2, c2⟩
  have z0 := w0.2.1
  have z2 := w2.2.1
  have z1 := w1
  unfold maxLen at z1
  clear w0 w1 w2 hE
  go_upto_if 14 with fail
  go_cut [0] (fun v wx => ∃ n c, v = .slice a0 n c ∧ n ≤ 12 ∧ wx = w ∧ Hid (InIn w a0 n (t0.take 12)))
  case first =>
    by_cases h : 12 < len0
    · have HN : Hid (InIn w a0 12 (t0.take 12)) := HA0.out.1.take 12 (by omega)
      go_wp2
      go_meet
      exact ⟨12, _, rfl, by omega, rfl, HN⟩
    · have HN : Hid (InIn w a0 len0 (t0.take 12)) := by
        have := HA0.out.1
        rw [List.take_of_length_le (by rw [this.1]; omega)]; exact this
      go_wp2
      go_meet
      exact ⟨len0, _, rfl, by omega, rfl, HN⟩
  case rest =>
    rename World => W1
    obtain ⟨n0, k0, rfl, hn0, hw1, H0⟩ := hcut
    subst W1
    go_upto_if 19 with fail
    go_cut [2] (fun v wx => ∃ n c, v = .slice a2 n c ∧ n ≤ 12 ∧ wx = w ∧ Hid (InIn w a2 n (t2.take 12)))
    case first =>
      by_cases h : 12 < len2
      · have HN : Hid (InIn w a2 12 (t2.take 12)) := HA2.out.1.take 12 (by omega)
        go_wp2
        go_meet
        exact ⟨12, _, rfl, by omega, rfl, HN⟩
      · have HN : Hid (InIn w a2 len2 (t2.take 12)) := by
          have := HA2.out.1
          rw [List.take_of_length_le (by rw [this.1]; omega)]; exact this
        go_wp2
        go_meet
        exact ⟨len2, _, rfl, by omega, rfl, HN⟩
    case rest =>
      rename World => W1
      obtain ⟨n2, k2, rfl, hn2, hw1, H2⟩ := hcut
      subst W1
      go_upto_if 24 with fail
      go_cut [1] (fun v wx => ∃ s : ByteArray, v = .string s ∧ s.size ≤ 60 ∧ wx = w)
      case first =>
        by_cases h : 60 < a1.size
        · go_wp2
          go_meet
          exact ⟨_, rfl, by simp; omega, rfl⟩
        · go_wp2
          go_meet
          exact ⟨a1, rfl, by omega, rfl⟩
      case rest =>
        rename World => W1
        obtain ⟨nm, rfl, hnm, hw1⟩ := hcut
        subst W1
        obtain ⟨l, hl⟩ : ∃ l, l = t0.take 12 := ⟨_, rfl⟩
        obtain ⟨ms, hms⟩ : ∃ l, l = t2.take 12 := ⟨_, rfl⟩
        rw [← hl] at H0
        rw [← hms] at H2
        clear hl hms HA0 HA2 z0 z1 z2 c0 c2
        have HO := tree_of w 30 (.slice a0 n0 k0) 69 (nxL l) nm a2 n2 k2 ms (by omega) H2.out (wk_list w a0 n0 k0 l _ H0.out (by omega)) (nxL_neg _) (by omega)
        have HO2 : Hid _ := HO
        have HOK : Hid (TrOk (nxL l) (treeOf (nxL l) ms).2) := tree_ok _ _
        have HRO : Hid (∀ W, Below w.heap.size w W → Calls Tryd.prog 5 #[.slice a0 n0 k0, .slice a2 n2 k2] W fun e w' => RofR e w' (treeOf (nxL l) ms).1 (treeOf (nxL l) ms).2 n0 ∧ Below W.heap.size W w') := fun W hW => rof_any W a0 n0 k0 l a2 n2 k2 ms (H0.out.below (Nat.le_refl _) hW) (H2.out.below (Nat.le_refl _) hW) hn0 (by omega)
        have HLN : Hid (l.length = n0) := H0.out.1
        clear HO H2
        generalize treeOf (nxL l) ms = tr at HO2 HOK HRO
        obtain ⟨cd, t⟩ := tr
        simp only at HO2 HOK HRO
        go_wp2_with fail
        refine Calls.mono HO2.out ?_
        clear HO2
        rintro e w3 ⟨h3, b3⟩
        rcases h3 with ⟨hc, rfl⟩ | ⟨hc, g, rfl, hup⟩
        · obtain ⟨W4, hW4⟩ : ∃ W, W = w3.alloc (.cells #[.int .i64 0, .map none] 25) := ⟨_, rfl⟩
          obtain ⟨q, hq⟩ : ∃ q, q = w3.heap.size := ⟨_, rfl⟩
          have d0 : W4.cell? ⟨q, 0, none⟩ = some (.int .i64 0) := by rw [hW4, hq]; exact World.cell?_alloc_new ..
          have d1 : W4.cell? ⟨q, 1, none⟩ = some (.map none) := by rw [hW4, hq]; simp
          have HB4 : Hid (Below w.heap.size w W4 ∧ cd ≠ 0) := ⟨b3.trans (by rw [hW4]; exact (below_one _ _).mono b3.size), hc⟩
          clear b3 hc
          go_upto_region 8 with fail
          rw [← hW4]
          try rw [← hq]
          clear hW4 hq
          go_wp2_with fail
          refine Calls.mono (HRO.out _ HB4.out.1) ?_
          rintro e w5 ⟨h5, b5⟩
          rcases h5 with ⟨_, rfl⟩ | ⟨hc, _⟩
          · have f0 := cell_grown d0 b5
            have f1 := cell_grown d1 b5
            have fl := cell_block f0
            have H5 : Hid (Below w.heap.size w w5) := HB4.out.1.trans (b5.mono HB4.out.1.size)
            have hc0 : (cd != 0) = true := by simpa using HB4.out.2
            have hcc : (cd != cd) = false := by simp
            clear b5 d0 d1
            obtain ⟨W6, hW6⟩ : ∃ W, W = w5.alloc (.cells #[.int .i64 0, .slice none 0 0] 32) := ⟨_, rfl⟩
            have b6 : Below w5.heap.size w5 W6 := by rw [hW6]; exact below_one _ _
            replace f0 := cell_grown f0 b6
            replace f1 := cell_grown f1 b6
            replace fl := cell_block f0
            have H6 : Hid (Below w.heap.size w W6) := H5.out.trans (b6.mono H5.out.size)
            clear b6 H5
            go_upto_region 9 with fail
            rw [← hW6]
            clear hW6
            go_wp2_with fail
            refine (awake20_any _).mono ?_
            rintro e w7 ⟨rfl, b7⟩
            replace f0 := cell_grown f0 b7
            replace f1 := cell_grown f1 b7
            replace fl := cell_block f0
            have H7 : Hid (Below w.heap.size w w7) := H6.out.trans (b7.mono H6.out.size)
            clear b7 H6
            go_wp2_with fail
            refine (of_code cd _ (HE.out.below HE.out.lt H7.out)).mono ?_
            rintro e w8 ⟨rfl, b8⟩
            replace f0 := cell_grown f0 b8
            replace f1 := cell_grown f1 b8
            replace fl := cell_block f0
            have H8 : Hid (Below w.heap.size w w8) := H7.out.trans (b8.mono H7.out.size)
            clear b8 H7
            go_wp2
            go_ret
            exact ⟨rfl, H8.out⟩
          · exact absurd hc HB4.out.2
        · subst hc
          obtain ⟨root, up⟩ := t
          obtain ⟨W4, hW4⟩ : ∃ W, W = w3.alloc (.cells #[.int .i64 root, .map (some g)] 25) := ⟨_, rfl⟩
          obtain ⟨q, hq⟩ : ∃ q, q = w3.heap.size := ⟨_, rfl⟩
          have b4 : Below w3.heap.size w3 W4 := by rw [hW4]; exact below_one _ _
          have d0 : W4.cell? ⟨q, 0, none⟩ = some (.int .i64 root) := by rw [hW4, hq]; exact World.cell?_alloc_new ..
          have d1 : W4.cell? ⟨q, 1, none⟩ = some (.map (some g)) := by rw [hW4, hq]; simp
          have dl := cell_block d0
          have H4 : Hid (UpAt W4 g up ∧ Below w.heap.size w W4) := ⟨UpAt.below (m := up) hup b4, b3.trans (b4.mono b3.size)⟩
          clear b3 b4 hup
          go_upto_region 8 with fail
          rw [← hW4]
          try rw [← hq]
          clear hW4 hq
          have HFL : Hid (up.length ≤ 12 ∧ (∀ k ∈ up.map (·.1), i64 k) ∧ i64 root) := ⟨by have := fit_len HOK.out; have := HLN.out; simp at *; omega, fun k hk => by have := fit_key HOK.out hk; have := HLN.out; unfold i64; omega, by have := fit_root HOK.out; have := HLN.out; simp at *; unfold i64; omega⟩
          go_wp2_with fail
          refine Calls.mono (HRO.out _ H4.out.2) ?_
          rintro e w5 ⟨h5, b5⟩
          rcases h5 with ⟨hc, _⟩ | ⟨_, ra, rd, rfl, hrv⟩
          · exact absurd rfl hc
          simp only at hrv ⊢
          obtain ⟨W6, hW6⟩ : ∃ W, W = w5.alloc (.cells #[.int .i64 root, .slice ra n0 rd] 32) := ⟨_, rfl⟩
          obtain ⟨p, hp⟩ : ∃ p, p = w5.heap.size := ⟨_, rfl⟩
          have b6 : Below w5.heap.size w5 W6 := by rw [hW6]; exact below_one _ _
          have b56 : Below W4.heap.size W4 W6 := b5.trans (b6.mono b5.size)
          have e0 : W6.cell? ⟨p, 0, none⟩ = some (.int .i64 root) := by rw [hW6, hp]; exact World.cell?_alloc_new ..
          have e1 : W6.cell? ⟨p, 1, none⟩ = some (.slice ra n0 rd) := by rw [hW6, hp]; simp
          have el := cell_block e0
          replace d0 := cell_grown d0 b56
          replace d1 := cell_grown d1 b56
          replace dl := cell_block d0
          have H6 : Hid (UpAt W6 g up ∧ Below w.heap.size w W6 ∧ RtV W6 ⟨root, up⟩ ra n0) := ⟨H4.out.1.below b56, H4.out.2.trans (b56.mono H4.out.2.size), hrv.below b6⟩
          have HFT : Hid (TFit ⟨root, up⟩ n0) := hrv.fit
          clear b5 b6 b56 hrv H4
          go_upto_region 9 with fail
          rw [← hW6]
          try rw [← hp]
          clear hW6 hp
          go_wp2_with fail
          refine (awake20_any _).mono ?_
          rintro e w7 ⟨rfl, b7⟩
          replace d0 := cell_grown d0 b7
          replace d1 := cell_grown d1 b7
          replace dl := cell_block d0
          replace e0 := cell_grown e0 b7
          replace e1 := cell_grown e1 b7
          replace el := cell_block e0
          have H7 : Hid (UpAt w7 g up ∧ Below w.heap.size w w7 ∧ RtV w7 ⟨root, up⟩ ra n0) := ⟨H6.out.1.below b7, H6.out.2.1.trans (b7.mono H6.out.2.1.size), H6.out.2.2.below b7⟩
          clear b7 H6
          have hrr : (root != root) = false := by simp
          obtain ⟨L, hLp, hLm⟩ := HFT.out.nodes
          have HL : Hid (L.Pairwise (· < ·) ∧ ∀ x, x ∈ L ↔ (⟨root, up⟩ : Tr).inT x) := ⟨hLp, hLm⟩
          clear hLp hLm
          have HND : Hid (∀ W, Below w7.heap.size w7 W → Calls Tryd.prog 9 #[.agg #[.int .i64 root, .map (some g)]] W fun e w' => (∃ a n c, e = .returned (.slice a n c) ∧ InIn w' a n L) ∧ Below W.heap.size W w') := fun W hW =>
            nodes_l (nx := nxL l) (t := ⟨root, up⟩) HL.out.1 HL.out.2 W (H7.out.1.below hW) (by have := HFL.out.1; simp; omega) HFL.out.2.1 HFL.out.2.2 HOK.out
          have HRN : Hid (∀ W, Below w7.heap.size w7 W → Calls Tryd.prog 10 #[.agg #[.int .i64 root, .slice ra n0 rd]] W fun e w' => (∃ a n c, e = .returned (.slice a n c) ∧ InIn w' a n L) ∧ Below W.heap.size W w') := fun W hW =>
            rnodes_l (t := ⟨root, up⟩) HL.out.1 HL.out.2 W (H7.out.2.2.below hW) (by omega)
          go_wp2_with (first
            | (go_at_call 7; refine (of_nil _).mono ?_; rintro e w' ⟨rfl, hw'⟩; subst w')
            | fail)
          go_upto_region 13 with fail
          go_cut [72] (fun v wx => v = .bool false ∧ Hid (Below w7.heap.size w7 wx))
          case first =>
            have B0 : Hid (Below w7.heap.size w7 w7) := (Below.refl _ _ : Below w7.heap.size w7 w7)
            go_region_held3 (fun W' => W'.cell? ⟨q, 0, none⟩ = some (.int .i64 root) ∧ W'.cell? ⟨q, 1, none⟩ = some (.map (some g)) ∧ W'.cell? ⟨p, 0, none⟩ = some (.int .i64 root) ∧ W'.cell? ⟨p, 1, none⟩ = some (.slice ra n0 rd))
              (first
                | go_keep
                | assumption)
              (first
                | (go_at_call 9; refine Calls.mono (HND.out _ ?_) ?_; first | exact BM.out | exact ⟨rfl, rfl, rfl, Nat.le_refl _, fun _ _ => rfl⟩
                   rintro e wM ⟨⟨x1, x2, x3, rfl, hi1⟩, hM⟩
                   first | have hB' := BM.out.trans (hM.mono BM.out.size) | have hB' : Below w7.heap.size w7 wM := B0.out.trans (show Below w7.heap.size w7 wM from ⟨hM.os, hM.tape, hM.output, hM.size, hM.block⟩)
                   (try have HR2 : Hid (InIn wM _ _ _) := HR1.out.below (Nat.le_refl _) hM)
                   have HN1 : Hid (InIn wM x1 x2 L) := hi1
                   have BM : Hid (Below w7.heap.size w7 wM) := hB'
                   have zm0 := cell_grown d0 hB'
                   have zm1 := cell_grown d1 hB'
                   have zm2 := cell_grown e0 hB'
                   have zm3 := cell_grown e1 hB'
                   have zml := cell_block zm0
                   have zmk := cell_block zm2
                   clear hM hB' hi1)
                | (go_at_call 10; refine Calls.mono (HRN.out _ ?_) ?_; first | exact BM.out | exact ⟨rfl, rfl, rfl, Nat.le_refl _, fun _ _ => rfl⟩
                   rintro e wM ⟨⟨y1, y2, y3, rfl, hi1⟩, hM⟩
                   first | have hB' := BM.out.trans (hM.mono BM.out.size) | have hB' : Below w7.heap.size w7 wM := B0.out.trans (show Below w7.heap.size w7 wM from ⟨hM.os, hM.tape, hM.output, hM.size, hM.block⟩)
                   (try have HN2 : Hid (InIn wM _ _ _) := HN1.out.below (Nat.le_refl _) hM)
                   have HR1 : Hid (InIn wM y1 y2 L) := hi1
                   have BM : Hid (Below w7.heap.size w7 wM) := hB'
                   have zm0 := cell_grown d0 hB'
                   have zm1 := cell_grown d1 hB'
                   have zm2 := cell_grown e0 hB'
                   have zm3 := cell_grown e1 hB'
                   have zml := cell_block zm0
                   have zmk := cell_block zm2
                   clear hM hB' hi1)
                | (go_at_call 8; refine (ints_self _ _ _ _ _ _ L _ ?_ ?_).mono ?_; (first | exact HN2.out | exact HN1.out); (first | exact HR2.out | exact HR1.out)
                   rintro e wI ⟨rfl, hI⟩
                   have hB' := BM.out.trans (hI.mono BM.out.size)
                   have BI : Hid (Below w7.heap.size w7 wI) := hB'
                   have zi0 := cell_grown d0 hB'
                   have zi1 := cell_grown d1 hB'
                   have zi2 := cell_grown e0 hB'
                   have zi3 := cell_grown e1 hB'
                   have zil := cell_block zi0
                   have zik := cell_block zi2
                   clear hI hB'))
            all_goals
              go_wp2
              go_meet
              exact ⟨rfl, BI⟩
          case rest =>
            rename World => W8
            obtain ⟨rfl, HC8⟩ := hcut
            clear HND HRN HL
            have H8 : Hid (UpAt W8 g up ∧ Below w.heap.size w W8 ∧ RtV W8 ⟨root, up⟩ ra n0) := ⟨H7.out.1.below HC8.out, H7.out.2.1.trans (HC8.out.mono H7.out.2.1.size), H7.out.2.2.below HC8.out⟩
            replace d0 := cell_grown d0 HC8.out
            replace d1 := cell_grown d1 HC8.out
            replace dl := cell_block d0
            replace e0 := cell_grown e0 HC8.out
            replace e1 := cell_grown e1 HC8.out
            replace el := cell_block e0
            clear HC8 H7
            go_wp2
            go_loopg [11] 15 (fun kx s wr => ∃ j : Nat, s = .int .i64 ((j : Int) - 1) ∧ j ≤ 15 ∧ kx = 15 - j ∧ Hid (Below W8.heap.size W8 wr))
            case atStart => exact ⟨0, rfl, Nat.zero_le _, rfl, (Below.refl _ _ : Below W8.heap.size W8 W8)⟩
            case round =>
              obtain ⟨j, rfl, hj, rfl, HB⟩ := hrel
              have f0 := cell_grown d0 HB.out
              have f1 := cell_grown d1 HB.out
              have fl := cell_block f0
              have g0 := cell_grown e0 HB.out
              have g1 := cell_grown e1 HB.out
              have gl := cell_block g0
              have HT : Hid (UpAt wr g up ∧ RtV wr ⟨root, up⟩ ra n0) := ⟨H8.out.1.below HB.out, H8.out.2.2.below HB.out⟩
              by_cases hlt : j < 15
              · obtain ⟨n, hn⟩ : ∃ n : Int, n = (j : Int) - 1 := ⟨_, rfl⟩
                have hn1 : -1 ≤ n := by omega
                have hn14 : n < 14 := by omega
                have HNJ : Hid (n = (j : Int) - 1) := hn
                rw [← hn]
                clear hn
                obtain ⟨dd, hdd⟩ : ∃ d, d = (⟨root, up⟩ : Tr).depth n := ⟨_, rfl⟩
                have HDD : Hid ((⟨root, up⟩ : Tr).depth n = dd) := hdd.symm
                clear hdd
                have hde : (dd != dd) = false := by simp
                have HD : Hid (∀ W, Below wr.heap.size wr W → Calls Tryd.prog 11 #[.agg #[.int .i64 root, .map (some g)], .int .i64 n] W fun e w' => e = .returned (.int .i64 dd) ∧ Below W.heap.size W w') := fun W hW => by
                  have := depth_any ⟨root, up⟩ g n W (HT.out.1.below hW) (by have := HFL.out.1; simp; omega)
                  rw [HDD.out] at this
                  exact this
                have HRD : Hid (∀ W, Below wr.heap.size wr W → Calls Tryd.prog 12 #[.agg #[.int .i64 root, .slice ra n0 rd], .int .i64 n] W fun e w' => e = .returned (.int .i64 dd) ∧ Below W.heap.size W w') := fun W hW => by
                  have := rdepth_any ⟨root, up⟩ ra n0 rd n W (HT.out.2.below hW) (by omega)
                  rw [HDD.out] at this
                  exact this
                by_cases hn0' : 0 ≤ n
                · obtain ⟨L, hLp, hLm⟩ := HFT.out.childs n
                  have HL : Hid (L.Pairwise (· < ·) ∧ ∀ x, x ∈ L ↔ lookI up x = some n) := ⟨hLp, hLm⟩
                  clear hLp hLm
                  have HND : Hid (∀ W, Below wr.heap.size wr W → Calls Tryd.prog 13 #[.agg #[.int .i64 root, .map (some g)], .int .i64 n] W fun e w' => (∃ a n c, e = .returned (.slice a n c) ∧ InIn w' a n L) ∧ Below W.heap.size W w') := fun W hW =>
                    childs_l (t := ⟨root, up⟩) HL.out.1 HL.out.2 W (HT.out.1.below hW) (by have := HFL.out.1; simp; omega) HFL.out.2.1
                  have HRN : Hid (∀ W, Below wr.heap.size wr W → Calls Tryd.prog 14 #[.agg #[.int .i64 root, .slice ra n0 rd], .int .i64 n] W fun e w' => (∃ a n c, e = .returned (.slice a n c) ∧ InIn w' a n L) ∧ Below W.heap.size W w') := fun W hW =>
                    rchilds_l (t := ⟨root, up⟩) HL.out.1 HL.out.2 W (HT.out.2.below hW) (by omega) hn0'
                  go_upto_region 18 with fail
                  go_cut [97] (fun v wx => v = .bool false ∧ Hid (Below wr.heap.size wr wx))
                  case first =>
                    go_region_held3 (fun W' => W'.cell? ⟨q, 0, none⟩ = some (.int .i64 root) ∧ W'.cell? ⟨q, 1, none⟩ = some (.map (some g)) ∧ W'.cell? ⟨p, 0, none⟩ = some (.int .i64 root) ∧ W'.cell? ⟨p, 1, none⟩ = some (.slice ra n0 rd))
                      (first
                        | go_keep
                        | assumption)
                      (first
                        | (go_at_call 11; refine Calls.mono (HD.out _ ?_) ?_; first | exact BM.out | exact ⟨rfl, rfl, rfl, Nat.le_refl _, fun _ _ => rfl⟩
                           rintro e wM ⟨rfl, hM⟩
                           first | have hB' := BM.out.trans (hM.mono BM.out.size) | have hB' : Below wr.heap.size wr wM := ⟨hM.os, hM.tape, hM.output, hM.size, hM.block⟩
                           have BM : Hid (Below wr.heap.size wr wM) := hB'
                           have zm0 := cell_grown f0 hB'
                           have zm1 := cell_grown f1 hB'
                           have zm2 := cell_grown g0 hB'
                           have zm3 := cell_grown g1 hB'
                           have zml := cell_block zm0
                           have zmk := cell_block zm2
                           clear hM hB')
                        | (go_at_call 12; refine Calls.mono (HRD.out _ ?_) ?_; first | exact BM.out | exact ⟨rfl, rfl, rfl, Nat.le_refl _, fun _ _ => rfl⟩
                           rintro e wM ⟨rfl, hM⟩
                           first | have hB' := BM.out.trans (hM.mono BM.out.size) | have hB' : Below wr.heap.size wr wM := ⟨hM.os, hM.tape, hM.output, hM.size, hM.block⟩
                           have BM : Hid (Below wr.heap.size wr wM) := hB'
                           have zm0 := cell_grown f0 hB'
                           have zm1 := cell_grown f1 hB'
                           have zm2 := cell_grown g0 hB'
                           have zm3 := cell_grown g1 hB'
                           have zml := cell_block zm0
                           have zmk := cell_block zm2
                           clear hM hB')
                        | (go_at_call 13; refine Calls.mono (HND.out _ ?_) ?_; exact BM.out
                           rintro e wM ⟨⟨x1, x2, x3, rfl, hi1⟩, hM⟩
                           have hB' := BM.out.trans (hM.mono BM.out.size)
                           (try have HR2 : Hid (InIn wM _ _ _) := HR1.out.below (Nat.le_refl _) hM)
                           have HN1 : Hid (InIn wM x1 x2 L) := hi1
                           have BM : Hid (Below wr.heap.size wr wM) := hB'
                           have zm0 := cell_grown f0 hB'
                           have zm1 := cell_grown f1 hB'
                           have zm2 := cell_grown g0 hB'
                           have zm3 := cell_grown g1 hB'
                           have zml := cell_block zm0
                           have zmk := cell_block zm2
                           clear hM hB' hi1)
                        | (go_at_call 14; refine Calls.mono (HRN.out _ ?_) ?_; exact BM.out
                           rintro e wM ⟨⟨y1, y2, y3, rfl, hi1⟩, hM⟩
                           have hB' := BM.out.trans (hM.mono BM.out.size)
                           (try have HN2 : Hid (InIn wM _ _ _) := HN1.out.below (Nat.le_refl _) hM)
                           have HR1 : Hid (InIn wM y1 y2 L) := hi1
                           have BM : Hid (Below wr.heap.size wr wM) := hB'
                           have zm0 := cell_grown f0 hB'
                           have zm1 := cell_grown f1 hB'
                           have zm2 := cell_grown g0 hB'
                           have zm3 := cell_grown g1 hB'
                           have zml := cell_block zm0
                           have zmk := cell_block zm2
                           clear hM hB' hi1)
                        | (go_at_call 8; refine (ints_self _ _ _ _ _ _ L _ ?_ ?_).mono ?_; (first | exact HN2.out | exact HN1.out); (first | exact HR2.out | exact HR1.out)
                           rintro e wI ⟨rfl, hI⟩
                           have hB' := BM.out.trans (hI.mono BM.out.size)
                           have BI : Hid (Below wr.heap.size wr wI) := hB'
                           have zi0 := cell_grown f0 hB'
                           have zi1 := cell_grown f1 hB'
                           have zi2 := cell_grown g0 hB'
                           have zi3 := cell_grown g1 hB'
                           have zil := cell_block zi0
                           have zik := cell_block zi2
                           clear hI hB'))
                    all_goals
                      go_wp2
                      go_meet
                      exact ⟨rfl, BI⟩
                  case rest =>
                    rename World => W9
                    obtain ⟨rfl, HC9⟩ := hcut
                    clear HND HRN HL HD HRD f0 f1 fl g0 g1 gl
                    go_wp2
                    go_roundg (15 - (j + 1))
                    case measure => omega
                    case rel => exact ⟨j + 1, by have := HNJ.out; congr 1; omega, by omega, rfl, (HB.out.trans (HC9.out.mono HB.out.size) : Below W8.heap.size W8 W9)⟩
                · obtain rfl : n = -1 := by omega
                  obtain ⟨ι, F, _, hF0, hFb, hFc⟩ := grown_fam wr
                  have m0 : ∀ i, (F i).cell? ⟨q, 0, none⟩ = _ := fun i => cell_grown f0 (hFb i)
                  have m1 : ∀ i, (F i).cell? ⟨q, 1, none⟩ = _ := fun i => cell_grown f1 (hFb i)
                  have m2 : ∀ i, (F i).cell? ⟨p, 0, none⟩ = _ := fun i => cell_grown g0 (hFb i)
                  have m3 : ∀ i, (F i).cell? ⟨p, 1, none⟩ = _ := fun i => cell_grown g1 (hFb i)
                  have HF : Hid ((∃ i, { wr with drawn := wr.drawn + 1 } = F i) ∧ (∀ i, Below wr.heap.size wr (F i))) := ⟨hF0, hFb⟩
                  have HDF : Hid (∀ i, Calls Tryd.prog 11 #[.agg #[.int .i64 root, .map (some g)], .int .i64 (-1)] (F i) fun e w' => e = .returned (.int .i64 dd) ∧ ∃ k, w' = F k) := fun i => (HD.out (F i) (hFb i)).mono (fun e w' z => ⟨z.1, hFc i w' (z.2.mono (hFb i).size)⟩)
                  have HRF : Hid (∀ i, Calls Tryd.prog 12 #[.agg #[.int .i64 root, .slice ra n0 rd], .int .i64 (-1)] (F i) fun e w' => e = .returned (.int .i64 dd) ∧ ∃ k, w' = F k) := fun i => (HRD.out (F i) (hFb i)).mono (fun e w' z => ⟨z.1, hFc i w' (z.2.mono (hFb i).size)⟩)
                  clear hF0 hFb hFc HD HRD hn0' hn1 hn14
                  go_upto_region 18 with fail
                  go_cut [97] (fun v wx => v = .bool false ∧ Hid (Below wr.heap.size wr wx))
                  case first =>
                    refine wp_region_fam F HF.out.1 (by kernel_rfl) (by kernel_rfl) ?_
                    repeat (go_big_quiet_step (first
                      | (go_at_call 11; exact HDF.out _)
                      | (go_at_call 12; exact HRF.out _)))
                    refine wpQuiet_nil ?_
                    rintro _ ⟨i, rfl⟩
                    have HB7 := HF.out.2 i
                    go_wp2
                    go_meet
                    exact ⟨rfl, HB7⟩
                  case rest =>
                    rename World => W9
                    obtain ⟨rfl, HC9⟩ := hcut
                    clear HDF HRF f0 f1 fl g0 g1 gl m0 m1 m2 m3
                    go_wp2
                    go_roundg (15 - (j + 1))
                    case measure => omega
                    case rel => exact ⟨j + 1, by have := HNJ.out; congr 1; omega, by omega, rfl, (HB.out.trans (HC9.out.mono HB.out.size) : Below W8.heap.size W8 W9)⟩
              · obtain rfl : j = 15 := by omega
                go_wp2
                go_ret
                exact ⟨rfl, H8.out.2.1.trans (HB.out.mono H8.out.2.1.size)⟩

/-! ### The row's step -/
set_option maxRecDepth 100000 in
theorem lifted (os : Os) (started : os.Started) (H : Type) (enc : TypeId × Value → H) :
    ReturnsInHanded {} Tryd.checked os 3 .any (fun w args => (Rows.treePlaysSpec.pre enc Tryd.prog Tryd.f3 [] false w args ∧ laidMetH Tryd.prog Rows.treePlaysRow.laid w) ∧ sizedMet enc Tryd.prog Tryd.f3 (OpenSpec.ofChange Rows.treePlaysSpec) false w args) (Rows.treePlaysSpec.post enc Tryd.prog Tryd.f3 false true false false) := by
  refine returnsInHanded_of_change_and (C := Tryd.checked) (X := fun w _ => laidMetH Tryd.prog Rows.treePlaysRow.laid w) (fun _ _ _ hh h => h.of_heap hh) own started (by kernel_rfl) Tryd.func3
    (ChangeSpec.witness_at (enc := enc) (C := Tryd.checked) (os := os) (X := fun w _ => laidMetH Tryd.prog Rows.treePlaysRow.laid w) false ({ World.holding Tryd.prog os ⟨#[], #[], []⟩ with heap := (World.holding Tryd.prog os ⟨#[], #[], []⟩).heap.modify 0 fun | .cells _ t frozen => .cells #[.iface 79 (.agg #[.pointer (some ⟨1, 27, none⟩)])] t frozen | o => o }) #[.slice none 0 0, .string ByteArray.empty, .slice none 0 0] 8 rfl (by kernel_rfl) (by kernel_rfl) (by kernel_rfl) (by kernel_rfl) (by kernel_rfl) (laidMetH_of_parts (laidMet_nil _ _) (by kernel_rfl))) ?_
  intro W base args ds gs before hval0 hW _ _ hL _
  have hval : ∀ (j : Nat) t v, Tryd.f3.params[j]? = some t → args[j]? = some v → Value.okWide Tryd.prog W .any base t v := hval0
  have hW' := hW
  obtain ⟨p, q, hA0, hV, rfl, hfz, hnd⟩ := hW
  have hA : DataW.TrodAll enc Tryd.prog W 0 (fun _ => true) true Tryd.f3.params.toList args.toList ds p := hA0
  rw [Tryd.params3] at hA hval
  obtain ⟨v0, vs0, d0, ds0, p0, q0, hargs, rfl, rfl, h0, r0⟩ := trodAll_cons hA
  obtain ⟨v1, vs1, d1, ds1, p1, q1, rfl, rfl, rfl, h1, r1⟩ := trodAll_cons r0
  obtain ⟨v2, vs2, d2, ds2, p2, q2, rfl, rfl, rfl, h2, r2⟩ := trodAll_cons r1
  obtain ⟨rfl, rfl, rfl⟩ := trodAll_nil r2
  obtain rfl : args = #[v0, v1, v2] := by cases args; simp_all
  obtain ⟨rfl, rfl⟩ := trodVars_none hV
  obtain ⟨a0, len0, cap0, rfl⟩ := okWide_slice Tryd.underlying22 (hval 0 22 v0 rfl rfl)
  have k0 := h0
  have lt0 : ∀ x ∈ p0, x.block < W.heap.size := by obtain ⟨m, hm⟩ := k0; exact DataW.trod_lt m _ _ _ hm
  have c0 : len0 ≤ cap0 := by
    obtain ⟨fuel, hf⟩ := h0
    exact incap_of Tryd.underlying22 hf
  obtain ⟨t0, w0⟩ : ∃ ts, InRow 1 encI i64 0 W a0 len0 ts := by
    obtain ⟨fuel, hf⟩ := h0
    exact inrow_of 1 encI i64 0 22 3 Tryd.underlying22 cellsI1 (by omega) lenI (fun n cs x => int_of n cs x) hf
  obtain ⟨a1, rfl, rfl, rfl, w1⟩ := open_string Tryd.underlying9 (hval 1 9 v1 rfl rfl) h1
  obtain ⟨a2, len2, cap2, rfl⟩ := okWide_slice Tryd.underlying22 (hval 2 22 v2 rfl rfl)
  have k2 := h2
  have lt2 : ∀ x ∈ p2, x.block < W.heap.size := by obtain ⟨m, hm⟩ := k2; exact DataW.trod_lt m _ _ _ hm
  have c2 : len2 ≤ cap2 := by
    obtain ⟨fuel, hf⟩ := h2
    exact incap_of Tryd.underlying22 hf
  obtain ⟨t2, w2⟩ : ∃ ts, InRow 1 encI i64 0 W a2 len2 ts := by
    obtain ⟨fuel, hf⟩ := h2
    exact inrow_of 1 encI i64 0 22 3 Tryd.underlying22 cellsI1 (by omega) lenI (fun n cs x => int_of n cs x) hf
  clear hA0 hval0
  have hE := handle_of_laid hL
  refine (walk a0 len0 cap0 t0 a1 a2 len2 cap2 t2 W hE w0 c0 w1 w2 c2).mono fun e W' ⟨he, bel⟩ => ?_
  subst he
  exact ⟨_, rfl, _, _, _, [], _, [], hW', trodAll_mk1 (shut_bool Tryd.underlying4 _), (trodAll_cons_mk (Below.trod laidOut (by kernel_rfl) (of_decide_eq_true (by kernel_rfl)) k0 bel lt0) (trodAll_cons_mk (shut_string Tryd.underlying9 w1) (trodAll_cons_mk (Below.trod laidOut (by kernel_rfl) (of_decide_eq_true (by kernel_rfl)) k2 bel lt2) trodAll_mk0))), rfl, bel.frame _, fun h => by cases h⟩

theorem over : Rows.treePlaysRow.holds Tryd.pinned (OpenSpec.ofChange Rows.treePlaysSpec) :=
  OpenClaim.holds_of_wide 3 Tryd.f3 rfl rfl rfl rfl rfl rfl rfl ⟨rfl, rfl, rfl, rfl, rfl⟩ rfl rfl rfl rfl rfl (by kernel_rfl) Tryd.func3 (by kernel_rfl)
    (of_decide_eq_true (by kernel_rfl)) (by unfold Func.isWrapper; first | (rw [if_pos (by decide +kernel)]; kernel_rfl) | (rw [if_neg (by decide +kernel)]; exact ⟨rfl, rfl⟩))
    (fun os started H enc _ => lifted os started H enc)

theorem card : Rows.TreePlaysCardSaid :=
  Claim7.holds_tied_plain_at .later [] [.handle] true (true, "486c015f2121449c1c957cf1af41cc1e1b09cc0ebc1c66e3e5b1ab9d51a11ba5") true
    over (fun _ h => by cases h) (by kernel_rfl) (fun _ h => by cases h) treePlays_row_tie rfl ⟨rfl, rfl⟩ (by kernel_rfl) rfl
    (fun f fn hf hfn => by
      obtain rfl : f = 3 := Option.some.inj ((show Tryd.prog.funcNamed "wigwag/wigwaglaw20.TreePlays" = some 3 by kernel_rfl).symm.trans hf) |>.symm
      obtain rfl : fn = Tryd.f3 := (Option.some.inj (Tryd.func3.symm.trans hfn)).symm
      exact ⟨by kernel_rfl, fun j t ht => by
        rw [Tryd.params3] at ht
        have hall : ∀ t ∈ ([22, 9, 22] : List TypeId), Tryd.prog.wantsStandIn t = false := by
          intro t ht
          simp only [List.mem_cons, List.not_mem_nil, or_false] at ht
          rcases ht with rfl | rfl | rfl <;> kernel_rfl
        exact hall t (by simpa using List.mem_of_getElem? (l := ([22, 9, 22] : List TypeId)) (i := j) (by simpa using ht))⟩)
    (by kernel_rfl)

end Go.Proofs.YtefaigdanoninaaDoor.treePlays

namespace Go.Proofs.YtefaigdanoninaaDoor
/-- Proved: for every list that says who is next, every name and all members (of the lists the first 12, of the name the first 60 bytes): the tree is the document's, or refused as it is, and all that it says is what the document's tree says; errors.errorType being laid as the program's text lays it (the card's tie, over the pruned copy). -/
theorem treePlays_holds : Rows.TreePlaysCardSaid := treePlays.card
#print axioms treePlays_holds
end Go.Proofs.YtefaigdanoninaaDoor
