/- Proved: for every list of entries and all places, WigwagHanded answers true (wishes that are handed from one table to another, place by place round the circle, and told of by numbers that a window takes once, are all there at last, and what is wanted of each group is the same; of at most 30).
  The frame is the guide's own shell (proof-skeleton.mjs) at this function; the walk and all ahead of it are mine. -/
import Derived.Test.YtffdknjocmfmfaaRows
import Derived.Test.YtffdknjocmfmfaaTbHd2
import Derived.Test.YtffdknjocmfmfaaTbCut
import Derived.Test.YtffdknjocmfmfaaTbRow
import Derived.Test.YtffdknjocmfmfaaPrW
import Derived.Deep.CutBlock
import Derived.Deep.DeepCutAuto
import Derived.Deep.LoopGhost
import Derived.Deep.QuietTactic
import Derived.BigQuiet
import Derived.WalkKit
import Derived.WalkLawsBesides
import Derived.ProofKit
import Derived.OpenShut
import Derived.ShutString
import Derived.ChangeOld
import Derived.Below
namespace Go.Proofs.Ytffdknjocmfmfaa.wigwagHanded
open Go.ChangeShapes Go.WideShapes Go.ChangeAt Go.RowKit
open Go.ChangeMaps (open_string shut_string)
set_option linter.unusedVariables false

theorem own : ownKnob Try.prog.godebug = none := by kernel_rfl
theorem laidOut : laidOutB Try.prog = true := by kernel_rfl


theorem what_new {L : List (Int × Int)} {p n : Int} (h : lastL L p < n) : whatL L p n = 1 ∧ comeL L p n = L ++ [(p, n)] := by
  have hw : whatL L p n = 1 := by
    unfold whatL
    rw [if_neg (by omega), if_neg (fun hm => by have := lastL_ge hm; omega)]
  exact ⟨hw, comeL_new hw⟩
theorem last_two (L : List (Int × Int)) (n : Int) (h : lastL L 2 < n) : lastL (L ++ [(2, n)]) 2 = n := by
  rw [lastL_snoc, if_pos rfl]; omega
/-! ### STEP 1: the walk -/
set_option maxRecDepth 100000 in
set_option maxHeartbeats 20000000 in
theorem walk (a0 : Option Addr) (len0 cap0 : Nat) (t0 : List Ep) (a1 : Option Addr) (len1 cap1 : Nat) (t1 : List Int) (w : World) (w0 : InRow 5 Ep.cells (EpOk w) ep0 w a0 len0 t0) (c0 : len0 ≤ cap0) (w1 : InRow 1 encU Go.Proofs.Ytffdknjocmfmfaa.u64 0 w a1 len1 t1) (c1 : len1 ≤ cap1) :
    Calls Try.prog 4 #[.slice a0 len0 cap0, .slice a1 len1 cap1] w fun e w' => e = .returned (.bool true) ∧ Below w.heap.size w w' := by
  have hmx0 := w0.2.1
  have HX : Hid (InRow 5 Ep.cells (EpOk w) ep0 w a0 len0 t0) := w0
  have HCu : Hid (InRow 1 encU u64 0 w a1 len1 t1) := w1
  have hmx1 := w1.2.1
  clear w0 w1
  obtain ⟨W0, hW0⟩ : ∃ W0, W0 = (((w.alloc (.cells #[.slice none 0 0] 26)).alloc (.cells #[.slice none 0 0] 26)).alloc (.cells #[.slice none 0 0] 26)).alloc (.cells #[.map none] 43) := ⟨_, rfl⟩
  have H0 : Hid (HdS w.heap.size w W0 (fun _ => []) [] (fun _ => False)) := (by
    refine HdS.start (by rw [hW0]; exact ((((Below.refl _ _).alloc (Nat.le_refl _) _).alloc (by simp) _).alloc (by simp; omega) _).alloc (by simp; omega) _) (fun i hi => ?_) ?_
    · rw [hW0, Below.heap_alloc _ _ _ (by simp; omega)]
      rcases Nat.lt_or_ge i 2 with q | q
      · rw [Below.heap_alloc _ _ _ (by simp; omega)]
        rcases Nat.lt_or_ge i 1 with q' | q'
        · obtain rfl : i = 0 := by omega
          rw [Nat.add_zero, Below.heap_alloc _ _ _ (by simp)]; exact heap_alloc_new w _
        · obtain rfl : i = 1 := by omega
          have := heap_alloc_new (w.alloc (.cells #[.slice none 0 0] 26)) (.cells #[.slice none 0 0] 26)
          simpa using this
      · obtain rfl : i = 2 := by omega
        have := heap_alloc_new ((w.alloc (.cells #[.slice none 0 0] 26)).alloc (.cells #[.slice none 0 0] 26)) (.cells #[.slice none 0 0] 26)
        simpa using this
    · rw [hW0]
      have := heap_alloc_new (((w.alloc (.cells #[.slice none 0 0] 26)).alloc (.cells #[.slice none 0 0] 26)).alloc (.cells #[.slice none 0 0] 26)) (.cells #[.map none] 43)
      simpa using this : HdS w.heap.size w W0 (fun _ => []) [] (fun _ => False))
  have hw15 := what_new (L := []) (p := 1) (n := 5) (by simp [lastL])
  go_enter Try.func4, Try.ntmps4
  go_upto_region 3 with fail
  rw [← hW0]
  clear hW0
  go_wp2_with fail
  refine (H0.out.come _ rfl 1 5 ⟨by omega, by omega, by omega, by omega⟩).mono ?_
  rw [hw15.1, hw15.2]
  rintro e w1 ⟨rfl, hH1, _⟩
  have H1 : Hid (HdS w.heap.size w w1 (fun _ => []) ([] ++ [(1, 5)]) (fun _ => False)) := hH1
  obtain ⟨L0, hL0⟩ : ∃ L0 : List (Int × Int), L0 = [] ++ [(1, 5)] := ⟨_, rfl⟩
  have hl0 : lastL L0 2 = 0 := by rw [hL0]; decide
  rw [← hL0] at H1
  have HL0 : Hid (lastL L0 2 = 0) := hl0
  clear hH1 hw15 H0 hL0 hl0
  go_wp2
  go_loopw [11] (fun y wr => ∃ (i : Nat) (X : Nat → List Ep), y = .int .i64 i ∧ i ≤ len0 ∧ i ≤ 30 ∧ Hid (HdS w.heap.size w wr X L0 (fun _ => False) ∧ Hd1 i X)) (fun y _ => 30 - (intOf y).toNat)
  case atStart => exact ⟨0, _, rfl, Nat.zero_le _, Nat.zero_le _, (⟨H1.out, Hd1.nil⟩ : HdS _ _ _ _ _ _ ∧ Hd1 _ _)⟩
  case round =>
    obtain ⟨i, X, rfl, hil, hi30, H⟩ := hrel
    clear H1
    by_cases hlt : i < len0 ∧ i < 30
    · obtain ⟨hl1, hl2⟩ := hlt
      have hi0 : (0 : Int) ≤ (i : Int) := Int.natCast_nonneg _
      have hi1 : (i : Int) < (len0 : Int) := by omega
      have hi2 : (i : Int) < 30 := by omega
      obtain ⟨b, o, ha, hb, hok, c0, c1, c2, c3, c4⟩ := ent_at HX.out H.out.1.bel hl1
      subst ha
      have HEA : Hid (∀ W, Below w.heap.size w W → b < W.heap.size ∧ W.cell? ⟨b, o + i * 5, none⟩ = some (.string (t0.getD i ep0).gr) ∧ W.cell? ⟨b, o + i * 5 + 1, none⟩ = some (.int .i64 (t0.getD i ep0).ch) ∧ W.cell? ⟨b, o + i * 5 + 2, none⟩ = some (.slice (t0.getD i ep0).a (t0.getD i ep0).ln (t0.getD i ep0).cp) ∧ W.cell? ⟨b, o + i * 5 + 3, none⟩ = some (.bool (t0.getD i ep0).any) ∧ W.cell? ⟨b, o + i * 5 + 4, none⟩ = some (.int .i64 (t0.getD i ep0).till)) := fun W hW => by
        obtain ⟨b', o', ha', hb', _, d0, d1, d2, d3, d4⟩ := ent_at HX.out hW hl1
        simp only [Option.some.injEq, Addr.mk.injEq] at ha'
        obtain ⟨rfl, rfl, _⟩ := ha'
        exact ⟨hb', d0, d1, d2, d3, d4⟩
      obtain ⟨x, hx⟩ : ∃ x, x = t0.getD i ep0 := ⟨_, rfl⟩
      rw [← hx] at hok c0 c1 c2 c3 c4 HEA
      have HOK : Hid (EpOk w x) := hok
      clear hx hok
      have hcut : ∀ W, Below w.heap.size w W → _ := fun W hW => cutIn HOK.out hW
      obtain ⟨gr, ch, fa, fl, fc, any, till, fs⟩ := x
      simp only at c0 c1 c2 c3 c4 hcut HEA
      have hcs := cut_size gr 30
      generalize cut gr 30 = cg at hcs hcut
      have HC : Hid _ := hcut
      clear hcut
      go_wp2_with fail
      refine Calls.mono (HC.out _ H.out.1.bel) ?_
      rintro e w2 ⟨a2, n2, p2, rfl, hs2, hn2, hb2⟩
      have H2 : Hid (HdS w.heap.size w w2 X L0 (fun _ => False) ∧ Hd1 i X) := ⟨H.out.1.below hb2, H.out.2⟩
      have HS2 : Hid _ := hs2
      clear hs2 hb2 c0 c1 c2 c3 c4 hb H
      go_wp2_with fail
      refine (H2.out.1.put 0 (by omega) _ rfl cg ch a2 n2 p2 any till (cutF fs) HS2.out (by omega) (by have := H2.out.2.l0; omega)).mono ?_
      rintro e w3 ⟨rfl, x3, hx3, hT3, _⟩
      have H3 : Hid (HdS w.heap.size w w3 (upd X 0 (putE (X 0) x3)) L0 (fun _ => False)) := hT3
      have HX3 : Hid (x3.key = (cg, ch) ∧ x3.want = cleanW (any, cutF fs)) := hx3
      have HM : Hid (Hd1 i X ∧ Asc ltK ((X 0).map Ep.key) ∧ Asc ltK ((X 2).map Ep.key)) := ⟨H2.out.2, H2.out.1.asc (by omega), H2.out.1.asc (by omega)⟩
      clear hx3 hT3 H2 HS2
      obtain ⟨hb, c0, c1, c2, c3, c4⟩ := HEA.out w3 H3.out.bel
      go_wp2_with fail
      refine Calls.mono (HC.out _ H3.out.bel) ?_
      rintro e w4 ⟨a4, n4, p4, rfl, hs4, hn4, hb4⟩
      have H4 : Hid (HdS w.heap.size w w4 (upd X 0 (putE (X 0) x3)) L0 (fun _ => False)) := H3.out.below hb4
      have HS4 : Hid _ := hs4
      clear hs4 hb4 c0 c1 c2 c3 c4 hb H3 HC
      go_wp2_with fail
      refine (H4.out.put 2 (by omega) _ rfl cg ch a4 n4 p4 any till (cutF fs) HS4.out (by omega) (by rw [upd_other _ _ (by omega)]; have := HM.out.1.l2; omega)).mono ?_
      rintro e w5 ⟨rfl, x5, hx5, hT5, _⟩
      have H5 : Hid (HdS w.heap.size w w5 (upd (upd X 0 (putE (X 0) x3)) 2 (putE (upd X 0 (putE (X 0) x3) 2) x5)) L0 (fun _ => False) ∧ Hd1 (i + 1) (upd (upd X 0 (putE (X 0) x3)) 2 (putE (upd X 0 (putE (X 0) x3) 2) x5))) :=
        ⟨hT5, HM.out.1.put HM.out.2.1 HM.out.2.2 HX3.out hx5 (by show cg.size ≤ 200; omega)⟩
      clear hx5 hT5 H4 HS4 HM HX3
      go_wp2
      go_roundw
      case rel => exact ⟨i + 1, _, by go_num, by omega, by omega, H5⟩
      case measure => simp [intOf]; omega
    · have hor : (True ∧ ¬ (i : Int) < (len0 : Int)) ∨ ((i : Int) < (len0 : Int) ∧ ¬ (i : Int) < 30) := by
        by_cases q : (i : Int) < (len0 : Int)
        · exact .inr ⟨q, by omega⟩
        · exact .inl ⟨trivial, q⟩
      clear hlt
      go_upto_region 7 with fail
      go_cut [44] (fun v wx => v = .bool false ∧ wr = wx)
      case first =>
        rcases hor with ⟨hor', hor⟩ | ⟨hor', hor⟩
        all_goals
          go_wp2_with fail
          go_meet
          exact ⟨by simp, rfl⟩
      case rest =>
        obtain ⟨rfl, hwx⟩ := hcut
        subst hwx
        clear hor HX hil
        have HS : Hid (HdS w.heap.size w wr X L0 (fun _ => False) ∧ Hd2 (X 0) [] (X 1) (X 2)) := ⟨H.out.1, H.out.2.later hi30⟩
        clear H
        go_upto_if 65 with fail
        go_cut [1] (fun v wx => (∃ (ca : Option Addr) (n cc : Nat), v = .slice ca n cc ∧ n ≤ 20 ∧ Hid (InRow 1 encU u64 0 w ca n (t1.take n) ∧ (ca = none → n = 0))) ∧ wr = wx)
        case first =>
          by_cases hbig : 20 < len1
          · have hb1 : (20 : Int) < (len1 : Int) := by omega
            have hb2 : (20 : Int) ≤ (cap1 : Int) := by omega
            obtain ⟨b, o, ha, hblt, _⟩ := HCu.out.2.2.resolve_left (by omega)
            subst ha
            go_wp2
            go_meet
            exact ⟨⟨_, 20, _, rfl, Nat.le_refl _, (⟨HCu.out.take' (by omega), fun h => by cases h⟩ : InRow _ _ _ _ _ _ _ _ ∧ _)⟩, rfl⟩
          · have hb1 : ¬ (20 : Int) < (len1 : Int) := by omega
            go_wp2
            go_meet
            refine ⟨⟨a1, len1, cap1, rfl, by omega, (⟨HCu.out.take' (Nat.le_refl _), fun h => ?_⟩ : InRow _ _ _ _ _ _ _ _ ∧ _)⟩, rfl⟩
            rcases HCu.out.2.2 with q | ⟨b, o, q, _⟩
            · exact q
            · rw [h] at q; cases q
        case rest =>
          obtain ⟨⟨ca, n, cc, rfl, hn20, HIn⟩, hwx⟩ := hcut
          subst hwx
          clear HCu
          obtain ⟨i0, hif, hz0, hz1, hz2⟩ := infoId_parts
          have HI1 : Hid (IdS wr (wr.alloc (.cells #[] 24)) (.slice (some ⟨wr.heap.size, 0, none⟩) 0 0) []) := IdS.new wr
          have HO1 : Hid ((wr.alloc (.cells #[] 24)).ownsRow wr.heap.size 24 1 (.slice (some ⟨wr.heap.size, 0, none⟩) 0 0) 0 []) := HI1.out.row
          have HSrc : Hid (Src Try.prog 1 40 (.slice ca n cc) n ((t1.take n).map (Value.int .u64)) (wr.alloc (.cells #[] 24))) := src_in HIn.out.1 (HS.out.1.bel.trans (HI1.out.bel.mono HS.out.1.size)) HIn.out.2
          have HCl : Hid ((t1.take n).length = n) := HIn.out.1.1
          clear HIn
          go_wp2_with (at_builtin; refine wpList_own_append _ rfl _ _ 40 40 rfl wr.heap.size 24 i0 _ 8 Try.underlying40 hif hz0 hz1 hz2 rfl _ 0 [] rfl HO1.out _ n _ rfl HSrc.out ?c3 ?c4 ?c5 ?_)
          case c3 => unfold maxLen; omega
          case c4 => omega
          case c5 => simp
          intro v2 w2 ha2
          obtain ⟨va2, vc2, hv2⟩ := ha2.shape
          subst hv2
          have HI2 : Hid (IdS wr w2 (.slice va2 n vc2) ([] ++ t1.take n)) := HI1.out.app2 (by rw [List.nil_append, HCl.out]) (by simp [List.map_take]) ha2
          clear ha2 HI1 HO1 HSrc
          rw [List.nil_append] at HI2
          have HI3 : Hid (IdS wr (w2.alloc (.cells #[.int .u64 0] 24)) (.slice va2 n vc2) (t1.take n)) := HI2.out.below ((Below.refl _ _).alloc (Nat.le_refl _) _)
          have HO3 : Hid ((w2.alloc (.cells #[.int .u64 0] 24)).ownsRow wr.heap.size 24 1 (.slice va2 n vc2) n ((t1.take n).map (Value.int .u64))) := (by have := HI3.out.row; rw [HCl.out] at this; exact this : (w2.alloc (.cells #[.int .u64 0] 24)).ownsRow wr.heap.size 24 1 (.slice va2 n vc2) n ((t1.take n).map (Value.int .u64)))
          have HS3 : Hid (Src Try.prog 1 40 (.slice (some ⟨w2.heap.size, 0, none⟩) 1 1) 1 [.int .u64 0] (w2.alloc (.cells #[.int .u64 0] 24))) := Src.ofSlice _ Try.underlying40 _ _ _ _ rfl (World.news_of_block (cs := #[.int .u64 0]) (t := 24) (fr := (0, 0)) (heap_alloc_new w2 _)) (by simp [Value.oneCell'])
          have hs2 : wr.heap.size ≤ w2.heap.size := HI2.out.bel.size
          go_wp2_with (at_builtin; refine wpList_own_append _ rfl _ _ 40 40 rfl wr.heap.size 24 i0 _ 8 Try.underlying40 hif hz0 hz1 hz2 rfl _ n _ rfl HO3.out _ 1 [.int .u64 0] rfl HS3.out ?c3 ?c4 ?c5 ?_)
          case c3 => unfold maxLen; omega
          case c4 => omega
          case c5 => simp; omega
          intro v4 w4 ha4
          obtain ⟨va, vc, hv4⟩ := ha4.shape
          subst hv4
          have HI4 : Hid (IdS wr w4 (.slice va (n + 1) vc) (t1.take n ++ [0])) := HI3.out.app2 (by rw [List.length_append, HCl.out]; rfl) (by simp) ha4
          clear ha4 HI3 HO3 HS3 HI2 hs2
          obtain ⟨C, hC⟩ : ∃ C, C = t1.take n ++ [0] := ⟨_, rfl⟩
          obtain ⟨nC, hnC⟩ : ∃ nC, nC = n + 1 := ⟨_, rfl⟩
          have hlC : C.length = nC := by rw [hC, hnC, List.length_append, HCl.out]; rfl
          rw [← hC, ← hnC] at HI4
          rw [← hnC]
          have HlC : Hid (C.length = nC) := hlC
          have hC21 : nC ≤ 21 := by omega
          have HR : Hid (HdR w.heap.size w w4 X L0 (.slice va nC vc) C (fun _ => False) ∧ Hd2 (X 0) [] (X 1) (X 2) ∧ lastL L0 2 ≤ ((0 : Nat) : Int)) := by
            refine ⟨⟨(HS.out.1.addT HI4.out.bel (T := fun k => (Value.slice va nC vc).ownBlock = some k) (fun b hb => HI4.out.row.lt b hb)).sub (fun k hk => hk.elim id False.elim), _, HI4.out.row⟩, HS.out.2, ?_⟩
            rw [HL0.out]; exact Int.le_refl _
          clear HI4 HS HCl hC hnC hlC HL0 hn20 hif hz0 hz1 hz2
          go_wp2
          go_loopw [74, 12] (fun y z wx => ∃ (i : Nat) (c : Int) (X : Nat → List Ep) (L : List (Int × Int)), y = .int .i64 i ∧ z = .int .u64 c ∧ i ≤ nC ∧ Hid (HdR w.heap.size w wx X L (.slice va nC vc) C (fun _ => False) ∧ Hd2 (X 0) [] (X 1) (X 2) ∧ lastL L 2 ≤ (i : Int))) (fun y _ _ => nC - (intOf y).toNat)
          case atStart => exact ⟨0, 0, X, L0, rfl, rfl, Nat.zero_le _, HR⟩
          case round =>
            rename World => wx
            clear HR
            obtain ⟨i, c, X, L, rfl, rfl, hic, H⟩ := hrel
            by_cases hlt : i < nC
            · have hi0 : (0 : Int) ≤ (i : Int) := Int.natCast_nonneg _
              have hi1 : (i : Int) < (nC : Int) := by omega
              obtain ⟨g, hva, hg, hcell⟩ := H.out.1.at (i := i) (by rw [HlC.out]; exact hlt)
              subst hva
              generalize C.getD i 0 = d at hcell
              by_cases hdc : d = c
              · subst hdc
                have ee : (d == d) = true := by simp
                have H2 : Hid (HdR w.heap.size w wx X L (.slice (some ⟨g, 0, none⟩) nC vc) C (fun _ => False) ∧ Hd2 (X 0) [] (X 1) (X 2) ∧ lastL L 2 ≤ ((i + 1 : Nat) : Int)) := ⟨H.out.1, H.out.2.1, by have := H.out.2.2; omega⟩
                clear H
                go_wp2
                go_roundw
                case rel => exact ⟨i + 1, d, X, L, by go_num, rfl, by omega, H2⟩
                case measure => simp [intOf]; omega
              · have ee : (d == c) = false := by simpa using hdc
                clear hdc
                have hwn := what_new (L := L) (p := 2) (n := (i : Int) + 1) (by have := H.out.2.2; omega)
                have hl2 := last_two L ((i : Int) + 1) (by have := H.out.2.2; omega)
                have HWN : Hid _ := hwn
                have HL2 : Hid _ := hl2
                clear hwn hl2
                go_wp2_with fail
                refine (H.out.1.come _ rfl 2 ((i : Int) + 1) ⟨by omega, by omega, by omega, by omega⟩).mono ?_
                rw [HWN.out.1, HWN.out.2]
                rintro e w5 ⟨rfl, h5⟩
                obtain ⟨L5, hL5⟩ : ∃ L5, L5 = L ++ [((2 : Int), (i : Int) + 1)] := ⟨_, rfl⟩
                rw [← hL5] at h5
                have H5 : Hid (HdR w.heap.size w w5 X L5 (.slice (some ⟨g, 0, none⟩) nC vc) C (fun _ => False) ∧ Hd2 (X 0) [] (X 1) (X 2) ∧ lastL L5 2 ≤ ((i + 1 : Nat) : Int)) := ⟨h5, H.out.2.1, by rw [hL5, HL2.out]; omega⟩
                clear h5 H HWN HL2 hL5 hcell hg
                go_wp2_with fail
                refine (H5.out.1.move 0 (by omega) _ rfl c d H5.out.2.1.sz).mono ?_
                rintro e w6 ⟨aM, cM, rfl, h6, hE6⟩
                have hP := HdP.start H5.out.1 H5.out.2.1 h6 hE6
                obtain ⟨M, hM⟩ : ∃ M, M = (X 0).filter (goesB c d) := ⟨_, rfl⟩
                obtain ⟨Y, hY⟩ : ∃ Y, Y = upd X 0 ((X 0).filter (fun x => !goesB c d x)) := ⟨_, rfl⟩
                obtain ⟨nM, hnM⟩ : ∃ nM, nM = M.length := ⟨_, rfl⟩
                rw [← hM, ← hnM]
                rw [← hM, ← hY, ← hnM] at hP
                have hM30 : nM ≤ 30 := by have := H5.out.2.1.len; have := List.length_filter_le (goesB c d) (X 0); rw [hnM, hM]; simp at *; omega
                have HP : Hid (HdP w.heap.size w w6 Y L5 (.slice (some ⟨g, 0, none⟩) nC vc) C aM nM cM M 0) := hP
                have HL5 : Hid (lastL L5 2 ≤ ((i + 1 : Nat) : Int)) := H5.out.2.2
                clear hP h6 hE6 H5 hM hY hnM
                go_wp2
                go_loopw [98] (fun y wy => ∃ (j : Nat) (Z : Nat → List Ep), y = .int .i64 j ∧ j ≤ nM ∧ Hid (HdP w.heap.size w wy Z L5 (.slice (some ⟨g, 0, none⟩) nC vc) C aM nM cM M j)) (fun y _ => nM - (intOf y).toNat)
                case atStart => exact ⟨0, _, rfl, Nat.zero_le _, HP⟩
                case round =>
                  rename World => wy
                  obtain ⟨j, Z, rfl, hj, H⟩ := hrel
                  clear HP
                  by_cases hltj : j < nM
                  · have hj0 : (0 : Int) ≤ (j : Int) := Int.natCast_nonneg _
                    have hj1 : (j : Int) < (nM : Int) := by omega
                    obtain ⟨b, o, ha, hb, hstr, hln, c0, c1, c2, c3, c4⟩ := H.out.ent.at hltj
                    subst ha
                    obtain ⟨x, hx⟩ : ∃ x, x = M.getD j ep0 := ⟨_, rfl⟩
                    rw [← hx] at c0 c1 c2 c3 c4 hstr hln
                    have HXE : Hid (x = M.getD j ep0) := hx
                    clear hx
                    obtain ⟨gr, ch, fa, fl, fc, any, till, fs⟩ := x
                    simp only at c0 c1 c2 c3 c4 hstr hln
                    obtain ⟨w7, hw7⟩ : ∃ w7, w7 = wy.alloc (.cells #[.string gr, .int .i64 ch, .slice fa fl fc, .bool any, .int .i64 till] 32) := ⟨_, rfl⟩
                    have b7 : Below wy.heap.size wy w7 := by rw [hw7]; exact (Below.refl _ _).alloc (Nat.le_refl _) _
                    have k7 : w7.heap[wy.heap.size]? = some (.cells #[.string gr, .int .i64 ch, .slice fa fl fc, .bool any, .int .i64 till] 32 (0, 0)) := by rw [hw7]; exact heap_alloc_new wy _
                    have d0 : w7.cell? ⟨wy.heap.size, 0, none⟩ = some (.string gr) := by simp [World.cell?, k7]
                    have d1 : w7.cell? ⟨wy.heap.size, 1, none⟩ = some (.int .i64 ch) := by simp [World.cell?, k7]
                    have d2 : w7.cell? ⟨wy.heap.size, 2, none⟩ = some (.slice fa fl fc) := by simp [World.cell?, k7]
                    have d3 : w7.cell? ⟨wy.heap.size, 3, none⟩ = some (.bool any) := by simp [World.cell?, k7]
                    have d4 : w7.cell? ⟨wy.heap.size, 4, none⟩ = some (.int .i64 till) := by simp [World.cell?, k7]
                    have dl := lt_blk k7
                    have H7 : Hid (HdP w.heap.size w w7 Z L5 (.slice (some ⟨g, 0, none⟩) nC vc) C (some ⟨b, o, none⟩) nM cM M j) := H.out.below b7
                    have HS7 : Hid (StrIn w7 fa fl fs) := hstr.below (Nat.le_refl _) b7
                    clear hstr H b7 k7
                    go_upto_region 24 with fail
                    rw [← hw7]
                    clear hw7 c0 c1 c2 c3 c4 hb
                    go_wp2_with fail
                    refine (H7.out.put hltj _ rfl gr ch fa fl fc any till fs HXE.out HS7.out hln).mono ?_
                    rintro e w8 ⟨rfl, Z8, h8⟩
                    have H8 : Hid (HdP w.heap.size w w8 Z8 L5 (.slice (some ⟨g, 0, none⟩) nC vc) C (some ⟨b, o, none⟩) nM cM M (j + 1)) := h8
                    clear h8 H7 HS7 d0 d1 d2 d3 d4 dl HXE
                    go_wp2
                    go_roundw
                    case rel => exact ⟨j + 1, _, by go_num, by omega, H8⟩
                    case measure => simp [intOf]; omega
                  · have hj1 : ¬ (j : Int) < (nM : Int) := by omega
                    obtain rfl : j = nM := by omega
                    have H9 : Hid (HdR w.heap.size w wy Z L5 (.slice (some ⟨g, 0, none⟩) nC vc) C (fun _ => False) ∧ Hd2 (Z 0) [] (Z 1) (Z 2) ∧ lastL L5 2 ≤ ((i + 1 : Nat) : Int)) := ⟨H.out.fin.1, H.out.fin.2, HL5.out⟩
                    clear H HL5
                    go_wp2
                    go_roundw
                    case rel => exact ⟨i + 1, d, Z, L5, by go_num, rfl, by omega, H9⟩
                    case measure => simp [intOf]; omega
            · have hi1 : ¬ (i : Int) < (nC : Int) := by omega
              clear hic
              go_wp2_with fail
              refine (H.out.1.move 0 (by omega) _ rfl 0 0 H.out.2.1.sz).mono ?_
              rintro e w6 ⟨aM, cM, rfl, h6, hE6⟩
              have hP := HdP.start H.out.1 H.out.2.1 h6 hE6
              have hall := move_all (X 0)
              obtain ⟨M, hM⟩ : ∃ M, M = (X 0).filter (goesB 0 0) := ⟨_, rfl⟩
              rw [hall.2] at hP
              obtain ⟨Y, hY⟩ : ∃ Y : Nat → List Ep, Y = upd X 0 [] := ⟨_, rfl⟩
              have hY0 : Y 0 = [] := by rw [hY, upd_same]
              obtain ⟨nM, hnM⟩ : ∃ nM, nM = M.length := ⟨_, rfl⟩
              rw [← hM, ← hnM]
              rw [← hM, ← hY, ← hnM] at hP
              have hM30 : nM ≤ 30 := by have := H.out.2.1.len; have := List.length_filter_le (goesB 0 0) (X 0); rw [hnM, hM]; simp at *; omega
              have HP : Hid (HdP w.heap.size w w6 Y L (.slice va nC vc) C aM nM cM M 0 ∧ Y 0 = []) := ⟨hP, hY0⟩
              clear hP h6 hE6 H hM hY hnM hY0 hall
              go_wp2
              go_loopw [110] (fun y wy => ∃ (j : Nat) (Z : Nat → List Ep), y = .int .i64 j ∧ j ≤ nM ∧ Hid (HdP w.heap.size w wy Z L (.slice va nC vc) C aM nM cM M j ∧ Z 0 = [])) (fun y _ => nM - (intOf y).toNat)
              case atStart => exact ⟨0, _, rfl, Nat.zero_le _, HP⟩
              case round =>
                rename World => wy
                obtain ⟨j, Z, rfl, hj, H⟩ := hrel
                clear HP
                by_cases hltj : j < nM
                · have hj0 : (0 : Int) ≤ (j : Int) := Int.natCast_nonneg _
                  have hj1 : (j : Int) < (nM : Int) := by omega
                  obtain ⟨b, o, ha, hb, hstr, hln, c0, c1, c2, c3, c4⟩ := H.out.1.ent.at hltj
                  subst ha
                  obtain ⟨x, hx⟩ : ∃ x, x = M.getD j ep0 := ⟨_, rfl⟩
                  rw [← hx] at c0 c1 c2 c3 c4 hstr hln
                  have HXE : Hid (x = M.getD j ep0) := hx
                  clear hx
                  obtain ⟨gr, ch, fa, fl, fc, any, till, fs⟩ := x
                  simp only at c0 c1 c2 c3 c4 hstr hln
                  obtain ⟨w7, hw7⟩ : ∃ w7, w7 = wy.alloc (.cells #[.string gr, .int .i64 ch, .slice fa fl fc, .bool any, .int .i64 till] 32) := ⟨_, rfl⟩
                  have b7 : Below wy.heap.size wy w7 := by rw [hw7]; exact (Below.refl _ _).alloc (Nat.le_refl _) _
                  have k7 : w7.heap[wy.heap.size]? = some (.cells #[.string gr, .int .i64 ch, .slice fa fl fc, .bool any, .int .i64 till] 32 (0, 0)) := by rw [hw7]; exact heap_alloc_new wy _
                  have d0 : w7.cell? ⟨wy.heap.size, 0, none⟩ = some (.string gr) := by simp [World.cell?, k7]
                  have d1 : w7.cell? ⟨wy.heap.size, 1, none⟩ = some (.int .i64 ch) := by simp [World.cell?, k7]
                  have d2 : w7.cell? ⟨wy.heap.size, 2, none⟩ = some (.slice fa fl fc) := by simp [World.cell?, k7]
                  have d3 : w7.cell? ⟨wy.heap.size, 3, none⟩ = some (.bool any) := by simp [World.cell?, k7]
                  have d4 : w7.cell? ⟨wy.heap.size, 4, none⟩ = some (.int .i64 till) := by simp [World.cell?, k7]
                  have dl := lt_blk k7
                  have H7 : Hid (HdP w.heap.size w w7 Z L (.slice va nC vc) C (some ⟨b, o, none⟩) nM cM M j ∧ Z 0 = []) := ⟨H.out.1.below b7, H.out.2⟩
                  have HS7 : Hid (StrIn w7 fa fl fs) := hstr.below (Nat.le_refl _) b7
                  clear hstr H b7 k7
                  go_upto_region 32 with fail
                  rw [← hw7]
                  clear hw7 c0 c1 c2 c3 c4 hb
                  go_wp2_with fail
                  refine (H7.out.1.put0 hltj _ rfl gr ch fa fl fc any till fs HXE.out HS7.out hln).mono ?_
                  rintro e w8 ⟨rfl, Z8, h8, h80⟩
                  have H8 : Hid (HdP w.heap.size w w8 Z8 L (.slice va nC vc) C (some ⟨b, o, none⟩) nM cM M (j + 1) ∧ Z8 0 = []) := ⟨h8, h80.trans H7.out.2⟩
                  clear h8 h80 H7 HS7 d0 d1 d2 d3 d4 dl HXE
                  go_wp2
                  go_roundw
                  case rel => exact ⟨j + 1, _, by go_num, by omega, H8⟩
                  case measure => simp [intOf]; omega
                · have hj1 : ¬ (j : Int) < (nM : Int) := by omega
                  obtain rfl : j = nM := by omega
                  have H9 : Hid (HdS w.heap.size w wy Z L (fun _ => False)) := H.out.1.fin.1.hd.sub (fun k hk => hk.elim)
                  have hsame : (Z 1).map Ep.kw = (Z 2).map Ep.kw := by
                    have hm := H.out.1.fin.2
                    rw [H.out.2] at hm
                    exact hm.fin (H9.out.asc (by omega)) (H9.out.asc (by omega))
                  have hll : (Z 1).length = (Z 2).length := by have := congrArg List.length hsame; simpa using this
                  have hZ0 : (Z 0).length = 0 := by rw [H.out.2]; rfl
                  have hZ1 : (Z 1).length ≤ 30 := by have := H.out.1.fin.2.len; omega
                  have HK : Hid ((Z 1).map Ep.kw = (Z 2).map Ep.kw) := hsame
                  obtain ⟨N, hN⟩ : ∃ N, N = names ((Z 2).map Ep.gr) := ⟨_, rfl⟩
                  have HG : Hid (∀ W, Below wy.heap.size wy W → Calls Try.prog 9 #[.pointer (some ⟨w.heap.size + 2, 0, none⟩)] W fun e w' => ∃ a c, e = .returned (.slice a N.length c) ∧ StrIn w' a N.length N ∧ Below W.heap.size W w') := fun W hW => by
                    rw [hN]; exact ((H9.out.below hW).own (i := 2) (by omega)).names
                  obtain ⟨nZ, hnZ⟩ : ∃ n, n = (Z 2).length := ⟨_, rfl⟩
                  have HL1 : Hid (Calls Try.prog 7 #[.pointer (some ⟨w.heap.size, 0, none⟩)] wy fun e w' => e = .returned (.int .i64 0) ∧ w' = wy) := (by
                    have := (H9.out.own (i := 0) (by omega)).len
                    rw [hZ0] at this
                    exact this : Calls Try.prog 7 #[.pointer (some ⟨w.heap.size, 0, none⟩)] wy fun e w' => e = .returned (.int .i64 0) ∧ w' = wy)
                  have HL2 : Hid (Calls Try.prog 7 #[.pointer (some ⟨w.heap.size + 1, 0, none⟩)] wy fun e w' => e = .returned (.int .i64 nZ) ∧ w' = wy) := (by
                    rw [hnZ, ← hll]; exact (H9.out.own (i := 1) (by omega)).len : Calls Try.prog 7 #[.pointer (some ⟨w.heap.size + 1, 0, none⟩)] wy fun e w' => e = .returned (.int .i64 nZ) ∧ w' = wy)
                  have HL3 : Hid (Calls Try.prog 7 #[.pointer (some ⟨w.heap.size + 2, 0, none⟩)] wy fun e w' => e = .returned (.int .i64 nZ) ∧ w' = wy) := (by
                    rw [hnZ]; exact (H9.out.own (i := 2) (by omega)).len : Calls Try.prog 7 #[.pointer (some ⟨w.heap.size + 2, 0, none⟩)] wy fun e w' => e = .returned (.int .i64 nZ) ∧ w' = wy)
                  obtain ⟨nN, hnN⟩ : ∃ n, n = N.length := ⟨_, rfl⟩
                  have hN30 : nN ≤ 100000 := by
                    have h1 := compact_len (zs := ((Z 2).map Ep.gr).map (fun s : ByteArray => s.data.toList))
                    have h2 : nN = (Lib.compact (((Z 2).map Ep.gr).map (fun s : ByteArray => s.data.toList))).length := by rw [hnN, hN]; simp [names]
                    simp only [List.length_map] at h1
                    omega
                  have HNN : Hid (nN = N.length) := hnN
                  rw [← hnN] at HG
                  clear H hsame hll hN hnZ hnN hZ0 hZ1
                  go_wp2_with fail
                  refine HL1.out.mono ?_
                  rintro e w' ⟨rfl, hw'⟩
                  subst w'
                  go_wp2_with fail
                  refine HL2.out.mono ?_
                  rintro e w' ⟨rfl, hw'⟩
                  subst w'
                  go_wp2_with fail
                  refine HL3.out.mono ?_
                  rintro e w' ⟨rfl, hw'⟩
                  subst w'
                  clear HL1 HL2 HL3
                  go_wp2_with fail
                  refine (HG.out wy (Below.refl _ _)).mono ?_
                  rintro e w9 ⟨pa, pc, rfl, hp9, hb9⟩
                  have HE9 : Hid (HdE w.heap.size w w9 Z L pa N) := ⟨H9.out.below hb9, by rw [← HNN.out]; exact hp9, HK.out⟩
                  clear HG hp9 hb9 H9 HK
                  go_wp2
                  go_loopw [127] (fun y wz => ∃ (k : Nat), y = .int .i64 k ∧ k ≤ nN ∧ Hid (HdE w.heap.size w wz Z L pa N)) (fun y _ => nN - (intOf y).toNat)
                  case atStart => exact ⟨0, rfl, Nat.zero_le _, HE9⟩
                  case round =>
                    rename World => wz
                    obtain ⟨k, rfl, hkn, HE⟩ := hrel
                    clear HE9
                    by_cases hltk : k < nN
                    · have hk0 : (0 : Int) ≤ (k : Int) := Int.natCast_nonneg _
                      have hk1 : (k : Int) < (nN : Int) := by omega
                      obtain ⟨pb, po, hpa, hpb, p0⟩ := HE.out.p.get (j := k) (by have := HNN.out; omega)
                      subst hpa
                      generalize N.getD k ByteArray.empty = s at p0
                      have hch := fun W (hW : Below wz.heap.size wz W) r hr => HE.out.join s W hW r hr
                      generalize ((Z 2).filter (ofG s)).map Ep.want = Wn at hch
                      have HCh : Hid _ := hch
                      clear hch
                      go_wp2_with fail
                      refine (HCh.out wz (Below.refl _ _) _ (.inr rfl)).mono ?_
                      rintro e w10 ⟨ya, yn, yc, Y1, rfl, hy, hyw, hb10⟩
                      have B10 : Hid (Below wz.heap.size wz w10) := hb10
                      have HY : Hid (EntIn w10 ya yn Y1 ∧ Y1.map Ep.want = Wn) := ⟨hy, hyw⟩
                      clear hy hyw hb10 p0 hpb
                      go_wp2_with fail
                      refine (join_r ya yn yc Y1 Wn w10 HY.out.1 HY.out.2).mono ?_
                      obtain ⟨jb, hjb⟩ : ∃ jb, jb = (joinR Wn).1 := ⟨_, rfl⟩
                      obtain ⟨jf, hjf⟩ : ∃ jf, jf = (joinR Wn).2 := ⟨_, rfl⟩
                      have HJ : Hid (jb = (joinR Wn).1 ∧ jf = (joinR Wn).2) := ⟨hjb, hjf⟩
                      rw [← hjb, ← hjf]
                      clear hjb hjf
                      have hjl : jf.length ≤ 100000 := (by have := joinR_len Wn; rw [HJ.out.2]; omega)
                      obtain ⟨nj, hnj⟩ : ∃ nj, nj = jf.length := ⟨_, rfl⟩
                      rw [← hnj] at hjl ⊢
                      have HNJ : Hid (nj = jf.length) := hnj
                      clear hnj
                      rintro e w11 ⟨fa1, fc1, rfl, hf1, hb11⟩
                      have B11 : Hid (Below wz.heap.size wz w11) := B10.out.trans (hb11.mono B10.out.size)
                      have HF1 : Hid (StrIn w11 fa1 nj jf) := hf1
                      clear hf1 hb11 HY B10
                      go_wp2_with fail
                      refine (HCh.out w11 B11.out _ (.inl rfl)).mono ?_
                      rintro e w12 ⟨ya2, yn2, yc2, Y2, rfl, hy, hyw, hb12⟩
                      have B12 : Hid (Below wz.heap.size wz w12) := B11.out.trans (hb12.mono B11.out.size)
                      have HF2 : Hid (StrIn w12 fa1 nj jf) := HF1.out.below (Nat.le_refl _) hb12
                      have HY : Hid (EntIn w12 ya2 yn2 Y2 ∧ Y2.map Ep.want = Wn) := ⟨hy, hyw⟩
                      clear hy hyw hb12 HF1 B11
                      go_wp2_with fail
                      refine (join_r ya2 yn2 yc2 Y2 Wn w12 HY.out.1 HY.out.2).mono ?_
                      rw [← HJ.out.1, ← HJ.out.2, ← HNJ.out]
                      rintro e w13 ⟨fa2, fc2, rfl, hf2, hb13⟩
                      have B13 : Hid (Below wz.heap.size wz w13) := B12.out.trans (hb13.mono B12.out.size)
                      have HF : Hid (StrIn w13 fa1 nj jf ∧ StrIn w13 fa2 nj jf) := ⟨HF2.out.below (Nat.le_refl _) hb13, hf2⟩
                      clear hf2 hb13 HY B12 HF2
                      have ee : (jb != jb) = false := by simp
                      go_wp2_with fail
                      refine (texts_any fa1 fa2 nj nj fc1 fc2 jf jf w13 HF.out.1 HF.out.2 hjl hjl rfl).mono ?_
                      rintro e w14 ⟨rfl, hb14⟩
                      have HE2 : Hid (HdE w.heap.size w w14 Z L (some ⟨pb, po, none⟩) N) := HE.out.below (B13.out.trans (hb14.mono B13.out.size))
                      clear HE hb14 B13 HF HCh HJ
                      go_wp2
                      go_roundw
                      case rel => exact ⟨k + 1, by go_num, by omega, HE2⟩
                      case measure => simp [intOf]; omega
                    · have hk1 : ¬ (k : Int) < (nN : Int) := by omega
                      have hbe := HE.out.hd.bel
                      go_wp2
                      go_ret
                      exact ⟨rfl, hbe⟩

/-! ### The row's step -/
set_option maxRecDepth 100000 in
theorem lifted (os : Os) (started : os.Started) (H : Type) (enc : TypeId × Value → H) :
    ReturnsInHanded {} Try.checked os 4 .any (Rows.wigwagHandedSpec.pre6 enc Try.prog Try.f4 Rows.wigwagHandedRow.domain false) (Rows.wigwagHandedSpec.post enc Try.prog Try.f4 false true false false) := by
  refine returnsInHanded_of_change (C := Try.checked) own started (by kernel_rfl) Try.func4
    (ChangeSpec.witness6 (enc := enc) (C := Try.checked) false ⟨#[], #[.slice none 0 0, .slice none 0 0], []⟩ 8 (by kernel_rfl) (by kernel_rfl) (by kernel_rfl) (by kernel_rfl)) ?_
  intro W base args ds gs before hval0 hW hcnd _
  have hval : ∀ (j : Nat) t v, Try.f4.params[j]? = some t → args[j]? = some v → Value.okWide Try.prog W .any base t v := hval0
  have hW' := hW
  obtain ⟨p, q, hA0, hV, rfl, hfz, hnd⟩ := hW
  have hA : DataW.TrodAll enc Try.prog W 0 (fun _ => true) true Try.f4.params.toList args.toList ds p := hA0
  rw [Try.params4] at hA hval
  obtain ⟨v0, vs0, d0, ds0, p0, q0, hargs, rfl, rfl, h0, r0⟩ := trodAll_cons hA
  obtain ⟨v1, vs1, d1, ds1, p1, q1, rfl, rfl, rfl, h1, r1⟩ := trodAll_cons r0
  obtain ⟨rfl, rfl, rfl⟩ := trodAll_nil r1
  obtain rfl : args = #[v0, v1] := by cases args; simp_all
  obtain ⟨rfl, rfl⟩ := trodVars_none hV
  obtain ⟨a0, len0, cap0, rfl⟩ := okWide_slice Try.underlying22 (hval 0 22 v0 rfl rfl)
  have k0 := h0
  have lt0 : ∀ x ∈ p0, x.block < W.heap.size := by obtain ⟨m, hm⟩ := k0; exact DataW.trod_lt m _ _ _ hm
  have c0 : len0 ≤ cap0 := by
    obtain ⟨fuel, hf⟩ := h0
    exact incap_of Try.underlying22 hf
  obtain ⟨t0, w0⟩ : ∃ ts, InRow 5 Ep.cells (EpOk W) ep0 W a0 len0 ts := by
    obtain ⟨fuel, hf⟩ := h0
    exact inrow_of 5 Ep.cells (EpOk W) ep0 22 32 Try.underlying22 cellsEnt (by omega) Ep.cells_len (fun n cs x => ent_of n cs x) hf
  obtain ⟨a1, len1, cap1, rfl⟩ := okWide_slice Try.underlying40 (hval 1 40 v1 rfl rfl)
  have k1 := h1
  have lt1 : ∀ x ∈ p1, x.block < W.heap.size := by obtain ⟨m, hm⟩ := k1; exact DataW.trod_lt m _ _ _ hm
  have c1 : len1 ≤ cap1 := by
    obtain ⟨fuel, hf⟩ := h1
    exact incap_of Try.underlying40 hf
  obtain ⟨t1, w1⟩ : ∃ ts, InRow 1 encU Go.Proofs.Ytffdknjocmfmfaa.u64 0 W a1 len1 ts := by
    obtain ⟨fuel, hf⟩ := h1
    exact inrow_of 1 encU Go.Proofs.Ytffdknjocmfmfaa.u64 0 40 24 Try.underlying40 cellsU1 (by omega) lenU (fun n cs x => uid_of n cs x) hf
  clear hA0 hval0
  refine (walk a0 len0 cap0 t0 a1 len1 cap1 t1 W w0 c0 w1 c1).mono fun e W' ⟨he, bel⟩ => ?_
  subst he
  exact ⟨_, rfl, _, _, _, [], _, [], hW', trodAll_mk1 (shut_bool Try.underlying4 _), (trodAll_cons_mk (Below.trod laidOut (by kernel_rfl) (of_decide_eq_true (by kernel_rfl)) k0 bel lt0) (trodAll_cons_mk (Below.trod laidOut (by kernel_rfl) (of_decide_eq_true (by kernel_rfl)) k1 bel lt1) trodAll_mk0)), rfl, bel.frame _, fun h => by cases h⟩

theorem over : Rows.wigwagHandedRow.holds Try.pinned (OpenSpec.ofChange Rows.wigwagHandedSpec) :=
  OpenClaim.holds_of_wide 4 Try.f4 rfl rfl rfl rfl rfl rfl rfl ⟨rfl, rfl, rfl, rfl, rfl⟩ rfl rfl rfl rfl rfl (by kernel_rfl) Try.func4 (by kernel_rfl)
    (of_decide_eq_true (by kernel_rfl)) (by unfold Func.isWrapper; first | (rw [if_pos (by decide +kernel)]; kernel_rfl) | (rw [if_neg (by decide +kernel)]; exact ⟨rfl, rfl⟩))
    (fun os started H enc _ => lifted os started H enc)

end Go.Proofs.Ytffdknjocmfmfaa.wigwagHanded

namespace Go.Proofs.Ytffdknjocmfmfaa
/-- Proved: for every list of entries and all places, WigwagHanded answers true (wishes that are handed from one table to another, place by place round the circle, and told of by numbers that a window takes once, are all there at last, and what is wanted of each group is the same; of at most 30). -/
theorem wigwagHanded_holds : Rows.WigwagHandedSaid := wigwagHanded.over
#print axioms wigwagHanded_holds
end Go.Proofs.Ytffdknjocmfmfaa
