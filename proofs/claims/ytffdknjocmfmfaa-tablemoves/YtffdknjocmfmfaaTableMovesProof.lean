/- Proved: for every list of entries and any two places, TableMoves answers true (what moves out of a table and what stays is all, and moved in again it is there; of at most 30 entries).
  The frame is the guide's own shell (proof-skeleton.mjs) at this function; the walk and all ahead of it are mine. -/
import Derived.Test.YtffdknjocmfmfaaRows
import Derived.Test.YtffdknjocmfmfaaTbMvM
import Derived.Test.YtffdknjocmfmfaaTbCut
import Derived.Test.YtffdknjocmfmfaaTbRow
import Derived.Deep.CutBlock
import Derived.Deep.DeepCutAuto
import Derived.Deep.LoopGhost
import Derived.Deep.QuietTactic
import Derived.BigQuiet
import Derived.WalkKit
import Derived.WalkLawsBesides
import Derived.ProofKit
import Derived.OpenShut
import Derived.ShutString
import Derived.ChangeOld
import Derived.Below
namespace Go.Proofs.Ytffdknjocmfmfaa.tableMoves
open Go.ChangeShapes Go.WideShapes Go.ChangeAt Go.RowKit
open Go.ChangeMaps (open_string shut_string)
set_option linter.unusedVariables false

theorem own : ownKnob Try.prog.godebug = none := by kernel_rfl
theorem laidOut : laidOutB Try.prog = true := by kernel_rfl


/-! ### STEP 1: the walk -/
set_option maxRecDepth 100000 in
set_option maxHeartbeats 20000000 in
theorem walk (a0 : Option Addr) (len0 cap0 : Nat) (t0 : List Ep) (a1 : Int) (a2 : Int) (w : World) (w0 : InRow 5 Ep.cells (EpOk w) ep0 w a0 len0 t0) (w1 : (Lit.int .u64 a1).wf = true) (w2 : (Lit.int .u64 a2).wf = true) :
    Calls Try.prog 3 #[.slice a0 len0 cap0, .int .u64 a1, .int .u64 a2] w fun e w' => e = .returned (.bool true) ∧ Below w.heap.size w w' := by
  have hmx0 := w0.2.1
  have HX : Hid (InRow 5 Ep.cells (EpOk w) ep0 w a0 len0 t0) := w0
  clear w0
  obtain ⟨W0, hW0⟩ : ∃ W0, W0 = (w.alloc (.cells #[.slice none 0 0] 26)).alloc (.cells #[.slice none 0 0] 26) := ⟨_, rfl⟩
  have H0 : Hid (Tabs w.heap.size w W0 2 (fun _ => []) (fun _ => False)) := (by
    refine Tabs.start 2 (by rw [hW0]; exact ((Below.refl _ _).alloc (Nat.le_refl _) _).alloc (by simp) _) (fun i hi => ?_)
    rw [hW0]
    rcases Nat.lt_or_ge i 1 with q | q
    · obtain rfl : i = 0 := by omega
      rw [Nat.add_zero, Below.heap_alloc _ _ _ (by simp)]; exact heap_alloc_new w _
    · obtain rfl : i = 1 := by omega
      have := heap_alloc_new (w.alloc (.cells #[.slice none 0 0] 26)) (.cells #[.slice none 0 0] 26)
      simpa using this : Tabs w.heap.size w W0 2 (fun _ => []) (fun _ => False))
  go_enter Try.func3, Try.ntmps3
  go_upto_region 2 with fail
  rw [← hW0]
  clear hW0
  go_wp2
  go_loopw [9] (fun y wr => ∃ (i : Nat) (X : Nat → List Ep), y = .int .i64 i ∧ i ≤ len0 ∧ i ≤ 30 ∧ Hid (Tabs w.heap.size w wr 2 X (fun _ => False) ∧ MvI i X)) (fun y _ => 30 - (intOf y).toNat)
  case atStart => exact ⟨0, _, rfl, Nat.zero_le _, Nat.zero_le _, (⟨H0.out, MvI.nil⟩ : Tabs _ _ _ _ _ _ ∧ MvI _ _)⟩
  case round =>
    obtain ⟨i, X, rfl, hil, hi30, H⟩ := hrel
    clear H0
    by_cases hlt : i < len0 ∧ i < 30
    · obtain ⟨hl1, hl2⟩ := hlt
      have hi0 : (0 : Int) ≤ (i : Int) := Int.natCast_nonneg _
      have hi1 : (i : Int) < (len0 : Int) := by omega
      have hi2 : (i : Int) < 30 := by omega
      obtain ⟨b, o, ha, hb, hok, c0, c1, c2, c3, c4⟩ := ent_at HX.out H.out.1.bel hl1
      subst ha
      have HEA : Hid (∀ W, Below w.heap.size w W → b < W.heap.size ∧ W.cell? ⟨b, o + i * 5, none⟩ = some (.string (t0.getD i ep0).gr) ∧ W.cell? ⟨b, o + i * 5 + 1, none⟩ = some (.int .i64 (t0.getD i ep0).ch) ∧ W.cell? ⟨b, o + i * 5 + 2, none⟩ = some (.slice (t0.getD i ep0).a (t0.getD i ep0).ln (t0.getD i ep0).cp) ∧ W.cell? ⟨b, o + i * 5 + 3, none⟩ = some (.bool (t0.getD i ep0).any) ∧ W.cell? ⟨b, o + i * 5 + 4, none⟩ = some (.int .i64 (t0.getD i ep0).till)) := fun W hW => by
        obtain ⟨b', o', ha', hb', _, d0, d1, d2, d3, d4⟩ := ent_at HX.out hW hl1
        simp only [Option.some.injEq, Addr.mk.injEq] at ha'
        obtain ⟨rfl, rfl, _⟩ := ha'
        exact ⟨hb', d0, d1, d2, d3, d4⟩
      obtain ⟨x, hx⟩ : ∃ x, x = t0.getD i ep0 := ⟨_, rfl⟩
      rw [← hx] at hok c0 c1 c2 c3 c4 HEA
      have HOK : Hid (EpOk w x) := hok
      clear hx hok
      have hcut : ∀ W, Below w.heap.size w W → _ := fun W hW => cutIn HOK.out hW
      obtain ⟨gr, ch, fa, fl, fc, any, till, fs⟩ := x
      simp only at c0 c1 c2 c3 c4 hcut HEA
      have hcs := cut_size gr 30
      generalize cut gr 30 = cg at hcs hcut
      have HC : Hid _ := hcut
      clear hcut
      go_wp2_with fail
      refine Calls.mono (HC.out _ H.out.1.bel) ?_
      rintro e w1 ⟨a1, n1, p1, rfl, hs1, hn1, hb1⟩
      have H1 : Hid (Tabs w.heap.size w w1 2 X (fun _ => False) ∧ MvI i X) := ⟨H.out.1.below hb1, H.out.2⟩
      have HS1 : Hid _ := hs1
      clear hs1 hb1 c0 c1 c2 c3 c4 hb H
      go_wp2_with fail
      refine (H1.out.1.put 0 (by omega) _ rfl cg ch a1 n1 p1 any till (cutF fs) HS1.out (by omega) (by have := H1.out.2.l0; omega)).mono ?_
      rintro e w2 ⟨rfl, x2, hx2, hT2, _⟩
      have H2 : Hid (Tabs w.heap.size w w2 2 (upd X 0 (putE (X 0) x2)) (fun _ => False)) := hT2
      have HX2 : Hid (x2.key = (cg, ch)) := hx2.1
      have HM : Hid (MvI i X ∧ Asc ltK ((X 0).map Ep.key) ∧ Asc ltK ((X 1).map Ep.key)) := ⟨H1.out.2, H1.out.1.asc (by omega), H1.out.1.asc (by omega)⟩
      clear hx2 hT2 H1 HS1
      obtain ⟨hb, c0, c1, c2, c3, c4⟩ := HEA.out w2 H2.out.bel
      go_wp2_with fail
      refine Calls.mono (HC.out _ H2.out.bel) ?_
      rintro e w3 ⟨a3, n3, p3, rfl, hs3, hn3, hb3⟩
      have H3 : Hid (Tabs w.heap.size w w3 2 (upd X 0 (putE (X 0) x2)) (fun _ => False)) := H2.out.below hb3
      have HS3 : Hid _ := hs3
      clear hs3 hb3 c0 c1 c2 c3 c4 hb H2 HC
      go_wp2_with fail
      refine (H3.out.put 1 (by omega) _ rfl cg ch a3 n3 p3 any till (cutF fs) HS3.out (by omega) (by rw [upd_other _ _ (by omega)]; have := HM.out.1.l1; omega)).mono ?_
      rintro e w4 ⟨rfl, x4, hx4, hT4, _⟩
      have H4 : Hid (Tabs w.heap.size w w4 2 (upd (upd X 0 (putE (X 0) x2)) 1 (putE (upd X 0 (putE (X 0) x2) 1) x4)) (fun _ => False) ∧ MvI (i + 1) (upd (upd X 0 (putE (X 0) x2)) 1 (putE (upd X 0 (putE (X 0) x2) 1) x4))) :=
        ⟨hT4, HM.out.1.put HM.out.2.1 HM.out.2.2 HX2.out hx4.1 (by show cg.size ≤ 200; omega)⟩
      clear hx4 hT4 H3 HS3 HM HX2
      go_wp2
      go_roundw
      case rel => exact ⟨i + 1, _, by go_num, by omega, by omega, H4⟩
      case measure => simp [intOf]; omega
    · have hor : (True ∧ ¬ (i : Int) < (len0 : Int)) ∨ ((i : Int) < (len0 : Int) ∧ ¬ (i : Int) < 30) := by
        by_cases q : (i : Int) < (len0 : Int)
        · exact .inr ⟨q, by omega⟩
        · exact .inl ⟨trivial, q⟩
      clear hlt
      go_upto_region 3 with fail
      go_cut [26] (fun v wx => v = .bool false ∧ wr = wx)
      case first =>
        rcases hor with ⟨hor', hor⟩ | ⟨hor', hor⟩
        all_goals
          go_wp2_with fail
          go_meet
          exact ⟨by simp, rfl⟩
      case rest =>
        obtain ⟨rfl, hwx⟩ := hcut
        subst hwx
        clear hor HX hil
        have HI : Hid (MvI i X) := H.out.2
        have HT : Hid (Tabs w.heap.size w wr 2 X (fun _ => False)) := H.out.1
        have hX0 := H.out.2.l0
        have HO : Hid (OwnT w.heap.size w wr w.heap.size (X 0)) := H.out.1.own (i := 0) (by omega)
        clear H
        have hpl := part_len (goesB a1 a2) (X 0)
        have hag := part_again (goesB a1 a2) (X 0)
        obtain ⟨p, hp⟩ : ∃ p, p = goesB a1 a2 := ⟨_, rfl⟩
        rw [← hp] at hpl hag
        obtain ⟨Y, hY⟩ : ∃ Y, Y = (X 0).filter (fun x => !p x) := ⟨_, rfl⟩
        obtain ⟨M, hM⟩ : ∃ M, M = (X 0).filter p := ⟨_, rfl⟩
        have hcmv : ∀ (W : World) (Z : Nat → List Ep) (S : Nat → Prop), Tabs w.heap.size w W 2 Z S → (∀ x ∈ Z 0, x.gr.size ≤ 200) → _ := fun W Z S hT hsz => hT.move 0 (by omega) w.heap.size rfl a1 a2 hsz
        rw [← hp] at hcmv
        have HCM : Hid _ := hcmv
        have HY : Hid (Y = (X 0).filter (fun x => !p x)) := hY
        have HM : Hid (M = (X 0).filter p) := hM
        have HAG : Hid (Y.filter p = [] ∧ Y.filter (fun x => !p x) = Y) := by rw [hY]; exact hag
        rw [← hY, ← hM] at hpl
        obtain ⟨nX, hnX⟩ : ∃ n, n = (X 0).length := ⟨_, rfl⟩
        obtain ⟨nM, hnM⟩ : ∃ n, n = M.length := ⟨_, rfl⟩
        obtain ⟨nY, hnY⟩ : ∃ n, n = Y.length := ⟨_, rfl⟩
        rw [← hnX, ← hnM, ← hnY] at hpl
        rw [← hnX] at hX0
        have hsum : (nY : Int) + (nM : Int) = (nX : Int) := by omega
        have hY30 : nY ≤ 30 := by omega
        have hM30 : nM ≤ 30 := by omega
        have hX30 : nX ≤ 30 := by omega
        have HNX : Hid (nX = (X 0).length) := hnX
        have HNM : Hid (nM = M.length) := hnM
        have HNY : Hid (nY = Y.length) := hnY
        clear hp hY hM hcmv hpl hag hnX hnM hnY hX0
        go_wp2_with fail
        refine HO.out.len.mono ?_
        rintro e w' ⟨rfl, hw'⟩
        subst w'
        rw [← HNX.out]
        clear HO
        go_wp2_with fail
        refine (HCM.out wr X _ HT.out HI.out.sz).mono ?_
        rintro e w5 ⟨aM, cM, rfl, hT5, hE5, _⟩
        rw [← HM.out, ← HNM.out]
        rw [← HM.out, ← HY.out] at hT5
        rw [← HM.out] at hE5
        have hsz5 : ∀ x ∈ upd X 0 Y 0, x.gr.size ≤ 200 := fun x hx => by rw [upd_same, HY.out] at hx; exact HI.out.sz x (List.mem_filter.1 hx).1
        have H5 : Hid (Tabs w.heap.size w w5 2 (upd X 0 Y) (fun k => False ∨ rdE (.slice aM M.length cM) M k) ∧ EntIn w5 aM M.length M ∧ ∀ x ∈ upd X 0 Y 0, x.gr.size ≤ 200) := ⟨hT5, hE5, hsz5⟩
        have HO5 : Hid (OwnT w.heap.size w w5 w.heap.size Y) := (by have := hT5.own (i := 0) (by omega); rw [upd_same] at this; exact this : OwnT w.heap.size w w5 w.heap.size Y)
        clear hT5 hE5 hsz5 HT
        go_wp2_with fail
        refine HO5.out.len.mono ?_
        rintro e w' ⟨rfl, hw'⟩
        subst w'
        rw [← HNY.out]
        clear HO5
        go_wp2_with fail
        refine (HCM.out w5 _ _ H5.out.1 H5.out.2.2).mono ?_
        rintro e w6 ⟨aN, cN, rfl, hT6, _, hF6⟩
        rw [upd_same, HAG.out.1, List.length_nil] at hT6 ⊢
        rw [HAG.out.2] at hT6
        have H6 : Hid (Tabs w.heap.size w w6 2 (upd (upd X 0 Y) 0 Y) (rdE (.slice aM M.length cM) M) ∧ EntIn w6 aM nM M ∧ MvB X Y M 0 (upd (upd X 0 Y) 0 Y)) := by
          refine ⟨hT6.sub (fun k hk => .inl (.inr hk)), ?_, MvB.start X Y M _ (upd_same _ _ _) (by rw [upd_other _ _ (by omega), upd_other _ _ (by omega)])⟩
          rw [HNM.out]
          exact H5.out.2.1.frm (c := cM) hF6 (fun k hk => .inr hk)
        clear hT6 hF6 H5 HCM HAG
        go_wp2
        go_loopw [69] (fun y wx => ∃ (j : Nat) (Z : Nat → List Ep), y = .int .i64 j ∧ j ≤ nM ∧ Hid (Tabs w.heap.size w wx 2 Z (rdE (.slice aM M.length cM) M) ∧ EntIn wx aM nM M ∧ MvB X Y M j Z)) (fun y _ => nM - (intOf y).toNat)
        case atStart => exact ⟨0, _, rfl, Nat.zero_le _, H6⟩
        case round =>
          rename World => wx
          obtain ⟨j, Z, rfl, hj, H⟩ := hrel
          clear H6
          by_cases hlt : j < nM
          · have hj0 : (0 : Int) ≤ (j : Int) := Int.natCast_nonneg _
            have hj1 : (j : Int) < (nM : Int) := by omega
            obtain ⟨b, o, ha, hb, hstr, hln, c0, c1, c2, c3, c4⟩ := H.out.2.1.at hlt
            subst ha
            have hkey : (M.getD j ep0).key = ((M.getD j ep0).gr, (M.getD j ep0).ch) := rfl
            obtain ⟨x, hx⟩ : ∃ x, x = M.getD j ep0 := ⟨_, rfl⟩
            rw [← hx] at c0 c1 c2 c3 c4 hstr hln hkey
            have HXE : Hid (x = M.getD j ep0) := hx
            clear hx
            obtain ⟨gr, ch, fa, fl, fc, any, till, fs⟩ := x
            simp only at c0 c1 c2 c3 c4 hstr hln hkey
            have HKey : Hid _ := hkey
            clear hkey
            obtain ⟨w7, hw7⟩ : ∃ w7, w7 = wx.alloc (.cells #[.string gr, .int .i64 ch, .slice fa fl fc, .bool any, .int .i64 till] 32) := ⟨_, rfl⟩
            have b7 : Below wx.heap.size wx w7 := by rw [hw7]; exact (Below.refl _ _).alloc (Nat.le_refl _) _
            have k7 : w7.heap[wx.heap.size]? = some (.cells #[.string gr, .int .i64 ch, .slice fa fl fc, .bool any, .int .i64 till] 32 (0, 0)) := by rw [hw7]; exact heap_alloc_new wx _
            have d0 : w7.cell? ⟨wx.heap.size, 0, none⟩ = some (.string gr) := by simp [World.cell?, k7]
            have d1 : w7.cell? ⟨wx.heap.size, 1, none⟩ = some (.int .i64 ch) := by simp [World.cell?, k7]
            have d2 : w7.cell? ⟨wx.heap.size, 2, none⟩ = some (.slice fa fl fc) := by simp [World.cell?, k7]
            have d3 : w7.cell? ⟨wx.heap.size, 3, none⟩ = some (.bool any) := by simp [World.cell?, k7]
            have d4 : w7.cell? ⟨wx.heap.size, 4, none⟩ = some (.int .i64 till) := by simp [World.cell?, k7]
            have dl := lt_blk k7
            have H7 : Hid (Tabs w.heap.size w w7 2 Z (rdE (.slice (some ⟨b, o, none⟩) M.length cM) M) ∧ EntIn w7 (some ⟨b, o, none⟩) nM M ∧ MvB X Y M j Z) := ⟨H.out.1.below b7, H.out.2.1.below b7, H.out.2.2⟩
            have HS7 : Hid (StrIn w7 fa fl fs) := hstr.below (Nat.le_refl _) b7
            clear hstr H b7 k7
            go_upto_region 14 with fail
            rw [← hw7]
            clear hw7 c0 c1 c2 c3 c4 hb
            go_wp2_with fail
            refine (H7.out.1.put 0 (by omega) _ rfl gr ch fa fl fc any till fs HS7.out hln (by have := H7.out.2.2.len; have := HNY.out; omega)).mono ?_
            rintro e w8 ⟨rfl, x8, hx8, hT8, hF8⟩
            have H8 : Hid (Tabs w.heap.size w w8 2 (upd Z 0 (putE (Z 0) x8)) (rdE (.slice (some ⟨b, o, none⟩) M.length cM) M) ∧ EntIn w8 (some ⟨b, o, none⟩) nM M ∧ MvB X Y M (j + 1) (upd Z 0 (putE (Z 0) x8))) := by
              refine ⟨hT8, ?_, H7.out.2.2.put (H7.out.1.asc (by omega)) (by have := HNM.out; omega) (by rw [hx8.1, ← HXE.out]; rfl)⟩
              have hh := H7.out.2.1
              rw [HNM.out] at hh ⊢
              exact hh.frm (c := cM) hF8 (fun k hk => hk)
            clear hx8 hT8 hF8 H7 HS7 d0 d1 d2 d3 d4 dl HXE HKey
            go_wp2
            go_roundw
            case rel => exact ⟨j + 1, _, by go_num, by omega, H8⟩
            case measure => simp [intOf]; omega
          · have hj1 : ¬ (j : Int) < (nM : Int) := by omega
            obtain rfl : j = nM := by omega
            have hfin : (Z 0).map Ep.key = (Z 1).map Ep.key := by
              have hh := H.out.2.2
              rw [HY.out, HNM.out, HM.out] at hh
              exact hh.fin HI.out (H.out.1.asc (by omega)) (H.out.1.asc (by omega))
            have H9 : Hid (Tabs w.heap.size w wx 2 Z (fun _ => False)) := H.out.1.sub (fun k hk => hk.elim)
            have HK : Hid ((Z 0).map Ep.key = (Z 1).map Ep.key) := hfin
            have hnm : names ((Z 0).map Ep.gr) = names ((Z 1).map Ep.gr) := by rw [gr_key, gr_key, hfin]
            have hll : (Z 0).length = (Z 1).length := by have := congrArg List.length hfin; simpa using this
            obtain ⟨N, hN⟩ : ∃ N, N = names ((Z 0).map Ep.gr) := ⟨_, rfl⟩
            have HG0 : Hid (∀ W, Below wx.heap.size wx W → Calls Try.prog 9 #[.pointer (some ⟨w.heap.size, 0, none⟩)] W fun e w' => ∃ a c, e = .returned (.slice a N.length c) ∧ StrIn w' a N.length N ∧ Below W.heap.size W w') := fun W hW => by
              rw [hN]; exact ((H9.out.below hW).own (i := 0) (by omega)).names
            have HG1 : Hid (∀ W, Below wx.heap.size wx W → Calls Try.prog 9 #[.pointer (some ⟨w.heap.size + 1, 0, none⟩)] W fun e w' => ∃ a c, e = .returned (.slice a N.length c) ∧ StrIn w' a N.length N ∧ Below W.heap.size W w') := fun W hW => by
              rw [hN, hnm]; exact ((H9.out.below hW).own (i := 1) (by omega)).names
            obtain ⟨nZ, hnZ⟩ : ∃ n, n = (Z 0).length := ⟨_, rfl⟩
            have HL : Hid (∀ W r, Below wx.heap.size wx W → (r = w.heap.size ∨ r = w.heap.size + 1) → Calls Try.prog 7 #[.pointer (some ⟨r, 0, none⟩)] W fun e w' => e = .returned (.int .i64 nZ) ∧ w' = W) := fun W r hW hr => by
              rcases hr with rfl | rfl
              · rw [hnZ]; exact ((H9.out.below hW).own (i := 0) (by omega)).len
              · rw [hnZ, hll]; exact ((H9.out.below hW).own (i := 1) (by omega)).len
            obtain ⟨nN, hnN⟩ : ∃ n, n = N.length := ⟨_, rfl⟩
            have hN30 : nN ≤ 100000 := by
              have h1 := compact_len (zs := ((Z 0).map Ep.gr).map (fun s : ByteArray => s.data.toList))
              have h2 : nN = (Lib.compact (((Z 0).map Ep.gr).map (fun s : ByteArray => s.data.toList))).length := by rw [hnN, hN]; simp [names]
              have h3 := H.out.2.2.len
              have h4 := HNY.out
              simp only [List.length_map] at h1
              omega
            have HNN : Hid (nN = N.length) := hnN
            rw [← hnN] at HG0 HG1
            clear H hfin hnm hll hN hnZ hnN
            go_wp2_with fail
            refine (HG0.out wx (Below.refl _ _)).mono ?_
            rintro e w9 ⟨pa, pc, rfl, hp9, hb9⟩
            have HP9 : Hid (StrIn w9 pa nN N ∧ Below wx.heap.size wx w9) := ⟨hp9, hb9⟩
            clear hp9 hb9
            go_wp2_with fail
            refine (HG1.out w9 HP9.out.2).mono ?_
            rintro e w10 ⟨qa, qc, rfl, hq10, hb10⟩
            have HB10 : Hid (Below wx.heap.size wx w10) := HP9.out.2.trans (hb10.mono HP9.out.2.size)
            have HF10 : Hid (MvF w.heap.size w w10 Z pa qa N) := ⟨H9.out.below HB10.out, by rw [← HNN.out]; exact HP9.out.1.below (Nat.le_refl _) hb10, by rw [← HNN.out]; exact hq10⟩
            clear HP9 hq10 hb10 HG0 HG1 H9
            go_wp2_with fail
            refine (HL.out _ _ HB10.out (by first | exact .inl rfl | exact .inr rfl)).mono ?_
            rintro e w' ⟨rfl, hw'⟩
            subst w'
            go_wp2_with fail
            refine (HL.out _ _ HB10.out (by first | exact .inl rfl | exact .inr rfl)).mono ?_
            rintro e w' ⟨rfl, hw'⟩
            subst w'
            clear HL HB10
            go_wp2
            go_loopw [91] (fun y wy => ∃ (k : Nat), y = .int .i64 k ∧ k ≤ nN ∧ Hid (MvF w.heap.size w wy Z pa qa N)) (fun y _ => nN - (intOf y).toNat)
            case atStart => exact ⟨0, rfl, Nat.zero_le _, HF10⟩
            case round =>
              rename World => wy
              obtain ⟨k, rfl, hkn, HF⟩ := hrel
              clear HF10
              by_cases hlt : k < nN
              · have hk0 : (0 : Int) ≤ (k : Int) := Int.natCast_nonneg _
                have hk1 : (k : Int) < (nN : Int) := by omega
                obtain ⟨pb, po, hpa, hpb, p0⟩ := HF.out.p.get (j := k) (by have := HNN.out; omega)
                obtain ⟨qb, qo, hqa, hqb, q0⟩ := HF.out.q.get (j := k) (by have := HNN.out; omega)
                subst hpa hqa
                generalize N.getD k ByteArray.empty = s at p0 q0
                have hch := fun W (hW : Below wy.heap.size wy W) r hr => mvChild HF.out HK.out s W hW r hr
                generalize ((Z 0).filter (ofG s)).length = nC at hch
                have HCh : Hid _ := hch
                clear hch
                go_upto_region 23 with fail
                go_cut [16, 17, 18] (fun u v x wz => u = .int .i64 k ∧ (∃ va vc, v = .slice va nC vc) ∧ (∃ xa xc, x = .slice xa nC xc) ∧ Hid (Below wy.heap.size wy wz))
                case first =>
                  go_region_held3 (fun w' => w'.cell? ⟨pb, po + k, none⟩ = some (.string s) ∧ w'.cell? ⟨qb, qo + k, none⟩ = some (.string s))
                    (first
                      | go_keep
                      | assumption)
                    (first
                      | (have hguard := B1; clear hguard; go_at_call 10; refine Calls.mono (HCh.out _ (by exact ⟨B1.os, B1.tape, B1.output, B1.size, B1.block⟩) _ (by exact .inr rfl)) ?_; rintro e v2 ⟨va2, vc2, rfl, hb2⟩
                         have B2 : Below wy.heap.size wy v2 := B1.trans (Below.mono ⟨hb2.os, hb2.tape, hb2.output, hb2.size, hb2.block⟩ B1.size)
                         have y0 : v2.cell? ⟨pb, po + k, none⟩ = some (.string s) := (B2.cell (p := ⟨pb, po + k, none⟩) hpb).trans p0
                         have y1 : v2.cell? ⟨qb, qo + k, none⟩ = some (.string s) := (B2.cell (p := ⟨qb, qo + k, none⟩) hqb).trans q0
                         clear hb2)
                      | (go_at_call 10; refine Calls.mono (HCh.out _ (by exact ⟨rfl, rfl, rfl, Nat.le_refl _, fun _ _ => rfl⟩) _ (by exact .inl rfl)) ?_; rintro e v1 ⟨va1, vc1, rfl, hb1⟩
                         have B1 : Below wy.heap.size wy v1 := ⟨hb1.os, hb1.tape, hb1.output, hb1.size, hb1.block⟩
                         have z0 : v1.cell? ⟨pb, po + k, none⟩ = some (.string s) := (B1.cell (p := ⟨pb, po + k, none⟩) hpb).trans p0
                         have z1 : v1.cell? ⟨qb, qo + k, none⟩ = some (.string s) := (B1.cell (p := ⟨qb, qo + k, none⟩) hqb).trans q0
                         clear hb1))
                  all_goals (try go_wp2_with fail)
                  all_goals go_meet
                  all_goals exact ⟨rfl, ⟨_, _, rfl⟩, ⟨_, _, rfl⟩, ⟨B2.os, B2.tape, B2.output, B2.size, B2.block⟩⟩
                case rest =>
                  rename World => wz
                  obtain ⟨rfl, ⟨va, vc, rfl⟩, ⟨xa, xc, rfl⟩, HBz⟩ := hcut
                  have p1 : wz.cell? ⟨pb, po + k, none⟩ = some (.string s) := (HBz.out.cell (p := ⟨pb, po + k, none⟩) hpb).trans p0
                  have q1 : wz.cell? ⟨qb, qo + k, none⟩ = some (.string s) := (HBz.out.cell (p := ⟨qb, qo + k, none⟩) hqb).trans q0
                  have pl : pb < wz.heap.size := Nat.lt_of_lt_of_le hpb HBz.out.size
                  have ql : qb < wz.heap.size := Nat.lt_of_lt_of_le hqb HBz.out.size
                  have HFz : Hid (MvF w.heap.size w wz Z (some ⟨pb, po, none⟩) (some ⟨qb, qo, none⟩) N) := HF.out.below HBz.out
                  clear p0 q0 hpb hqb HF HBz HCh
                  go_wp2_with fail
                  go_quiet (fail)
                  go_wp2
                  go_roundw
                  case rel => exact ⟨k + 1, by go_num, by omega, HFz.out.below ⟨rfl, rfl, rfl, Nat.le_refl _, fun _ _ => rfl⟩⟩
                  case measure => simp [intOf]; omega
              · have hk1 : ¬ (k : Int) < (nN : Int) := by omega
                go_wp2_with fail
                refine (awake13_any _).mono ?_
                rintro e w12 ⟨rfl, hb12⟩
                have hbe := HF.out.tab.bel
                have hbs := HF.out.tab.size
                go_wp2
                go_ret
                exact ⟨rfl, hbe.trans (hb12.mono hbs)⟩

/-! ### The row's step -/
set_option maxRecDepth 100000 in
theorem lifted (os : Os) (started : os.Started) (H : Type) (enc : TypeId × Value → H) :
    ReturnsInHanded {} Try.checked os 3 .any (Rows.tableMovesSpec.pre6 enc Try.prog Try.f3 Rows.tableMovesRow.domain false) (Rows.tableMovesSpec.post enc Try.prog Try.f3 false true false false) := by
  refine returnsInHanded_of_change (C := Try.checked) own started (by kernel_rfl) Try.func3
    (ChangeSpec.witness6 (enc := enc) (C := Try.checked) false ⟨#[], #[.slice none 0 0, .int .u64 0, .int .u64 0], []⟩ 8 (by kernel_rfl) (by kernel_rfl) (by kernel_rfl) (by kernel_rfl)) ?_
  intro W base args ds gs before hval0 hW hcnd _
  have hval : ∀ (j : Nat) t v, Try.f3.params[j]? = some t → args[j]? = some v → Value.okWide Try.prog W .any base t v := hval0
  have hW' := hW
  obtain ⟨p, q, hA0, hV, rfl, hfz, hnd⟩ := hW
  have hA : DataW.TrodAll enc Try.prog W 0 (fun _ => true) true Try.f3.params.toList args.toList ds p := hA0
  rw [Try.params3] at hA hval
  obtain ⟨v0, vs0, d0, ds0, p0, q0, hargs, rfl, rfl, h0, r0⟩ := trodAll_cons hA
  obtain ⟨v1, vs1, d1, ds1, p1, q1, rfl, rfl, rfl, h1, r1⟩ := trodAll_cons r0
  obtain ⟨v2, vs2, d2, ds2, p2, q2, rfl, rfl, rfl, h2, r2⟩ := trodAll_cons r1
  obtain ⟨rfl, rfl, rfl⟩ := trodAll_nil r2
  obtain rfl : args = #[v0, v1, v2] := by cases args; simp_all
  obtain ⟨rfl, rfl⟩ := trodVars_none hV
  obtain ⟨a0, len0, cap0, rfl⟩ := okWide_slice Try.underlying22 (hval 0 22 v0 rfl rfl)
  have k0 := h0
  have lt0 : ∀ x ∈ p0, x.block < W.heap.size := by obtain ⟨m, hm⟩ := k0; exact DataW.trod_lt m _ _ _ hm
  obtain ⟨t0, w0⟩ : ∃ ts, InRow 5 Ep.cells (EpOk W) ep0 W a0 len0 ts := by
    obtain ⟨fuel, hf⟩ := h0
    exact inrow_of 5 Ep.cells (EpOk W) ep0 22 32 Try.underlying22 cellsEnt (by omega) Ep.cells_len (fun n cs x => ent_of n cs x) hf
  obtain ⟨a1, rfl, rfl, rfl, w1⟩ := open_int Try.underlying24 (hval 1 24 v1 rfl rfl) h1
  obtain ⟨a2, rfl, rfl, rfl, w2⟩ := open_int Try.underlying24 (hval 2 24 v2 rfl rfl) h2
  clear hA0 hval0
  refine (walk a0 len0 cap0 t0 a1 a2 W w0 w1 w2).mono fun e W' ⟨he, bel⟩ => ?_
  subst he
  exact ⟨_, rfl, _, _, _, [], _, [], hW', trodAll_mk1 (shut_bool Try.underlying4 _), (trodAll_cons_mk (Below.trod laidOut (by kernel_rfl) (of_decide_eq_true (by kernel_rfl)) k0 bel lt0) (trodAll_cons_mk (shut_int Try.underlying24 w1) (trodAll_cons_mk (shut_int Try.underlying24 w2) trodAll_mk0))), rfl, bel.frame _, fun h => by cases h⟩

theorem over : Rows.tableMovesRow.holds Try.pinned (OpenSpec.ofChange Rows.tableMovesSpec) :=
  OpenClaim.holds_of_wide 3 Try.f3 rfl rfl rfl rfl rfl rfl rfl ⟨rfl, rfl, rfl, rfl, rfl⟩ rfl rfl rfl rfl rfl (by kernel_rfl) Try.func3 (by kernel_rfl)
    (of_decide_eq_true (by kernel_rfl)) (by unfold Func.isWrapper; first | (rw [if_pos (by decide +kernel)]; kernel_rfl) | (rw [if_neg (by decide +kernel)]; exact ⟨rfl, rfl⟩))
    (fun os started H enc _ => lifted os started H enc)

end Go.Proofs.Ytffdknjocmfmfaa.tableMoves

namespace Go.Proofs.Ytffdknjocmfmfaa
/-- Proved: for every list of entries and any two places, TableMoves answers true (what moves out of a table and what stays is all, and moved in again it is there; of at most 30 entries). -/
theorem tableMoves_holds : Rows.TableMovesSaid := tableMoves.over
#print axioms tableMoves_holds
end Go.Proofs.Ytffdknjocmfmfaa
