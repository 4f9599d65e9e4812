/- Proved: for every list of entries, TableAny answers true (what several want is all, if one of them wants all, or if they are too many; else just the filters that are there).
  The frame is the guide's own shell (proof-skeleton.mjs) at this function; the walk and all ahead of it are mine. -/
import Derived.Test.YtmnlbheicedloaaRows
import Derived.Test.YtmnlbheicedloaaTbAny
import Derived.Test.YtmnlbheicedloaaTbCut2
import Derived.Deep.CutBlock
import Derived.Deep.DeepCutAuto
import Derived.Deep.LoopGhost
import Derived.BigQuiet
import Derived.WalkKit
import Derived.WalkLawsBesides
import Derived.ProofKit
import Derived.OpenShut
import Derived.ShutString
import Derived.ChangeOld
import Derived.Below
namespace Go.Proofs.Ytmnlbheicedloaa.tableAny
open Go.ChangeShapes Go.WideShapes Go.ChangeAt Go.RowKit
open Go.ChangeMaps (open_string shut_string)
set_option linter.unusedVariables false

theorem own : ownKnob Try.prog.godebug = none := by kernel_rfl
theorem laidOut : laidOutB Try.prog = true := by kernel_rfl


/-! ### STEP 1: the walk -/
set_option maxRecDepth 100000 in
set_option maxHeartbeats 20000000 in
theorem walk (a0 : Option Addr) (len0 cap0 : Nat) (t0 : List Ep) (w : World) (w0 : InRow 5 Ep.cells (EpOk w) ep0 w a0 len0 t0) :
    Calls Try.prog 6 #[.slice a0 len0 cap0] w fun e w' => e = .returned (.bool true) ∧ Below w.heap.size w w' := by
  have hmx0 := w0.2.1
  have HX : Hid (InRow 5 Ep.cells (EpOk w) ep0 w a0 len0 t0) := w0
  clear w0
  obtain ⟨i0, hi, hz0, hz1, hz2⟩ := infoStr_parts
  obtain ⟨j0, hj, hy0, hy1, hy2⟩ := infoEnt_parts
  obtain ⟨W0, hW0⟩ : ∃ W0, W0 = (w.alloc (.cells #[] 32)).alloc (.cells #[] 9) := ⟨_, rfl⟩
  have H0 : Hid (AnyS w W0 (.slice (some ⟨w.heap.size, 0, none⟩) 0 0) (.slice (some ⟨w.heap.size + 1, 0, none⟩) 0 0) [] []) := by rw [hW0]; exact AnyS.new w
  go_enter Try.func6, Try.ntmps6
  go_wp2
  rw [← hW0]
  clear hW0
  go_loopg [3, 4, 5, 6] 12 (fun kx s3 s4 s5 s6 wr => ∃ (i n5 c3 c5 : Nat) (a3 a5 : Option Addr) (any : Bool) (Y : List Ep) (all : List ByteArray), s6 = .int .i64 i ∧ i ≤ len0 ∧ i ≤ 12 ∧ kx = 12 - i ∧ s3 = .slice a3 i c3 ∧ s4 = .bool any ∧ s5 = .slice a5 n5 c5 ∧ n5 ≤ 20 * i ∧ Hid (Y.length = i ∧ n5 = all.length ∧ AnyS w wr (.slice a3 i c3) (.slice a5 n5 c5) Y all ∧ AllF (Y.map Ep.want) any all))
  case atStart => exact ⟨0, 0, 0, 0, _, _, false, [], [], rfl, Nat.zero_le _, by omega, rfl, rfl, rfl, rfl, by omega, (⟨rfl, rfl, H0.out, AllF.nil⟩ : _ ∧ _ ∧ _ ∧ _)⟩
  case round =>
    obtain ⟨i, n5, c3, c5, a3, a5, any, Y, all, rfl, hil, hi12, rfl, rfl, rfl, rfl, hn5, H⟩ := hrel
    clear H0
    by_cases hlt : i < len0 ∧ i < 12
    · obtain ⟨hl1, hl2⟩ := hlt
      have hi0 : (0 : Int) ≤ (i : Int) := Int.natCast_nonneg _
      have hi1 : (i : Int) < (len0 : Int) := by omega
      have hi2 : (i : Int) < 12 := by omega
      obtain ⟨b, o, ha, hb, hok, k0, k1, k2, k3, k4⟩ := ent_at HX.out H.out.2.2.1.ro.bel hl1
      subst ha
      obtain ⟨x, hx⟩ : ∃ x, x = t0.getD i ep0 := ⟨_, rfl⟩
      rw [← hx] at hok k0 k1 k2 k3 k4
      have HC : Hid _ := cutNew hok H.out.2.2.1.ro.bel
      clear hx hok
      obtain ⟨gr, ch, fa, fl, fc, xany, till, fs⟩ := x
      simp only at k0 k1 k2 k3 k4 HC
      go_wp2_with fail
      refine Calls.mono HC.out ?_
      rintro e w1 ⟨f1, n1, p1, rfl, hs1, hn1, hb1, hfr⟩
      clear k0 k1 k2 k3 k4 HC
      generalize cut gr 30 = cg
      generalize cutF fs = F at hs1
      have hA1 := H.out.2.2.1.below hb1
      obtain ⟨W1, hW1⟩ : ∃ W1, W1 = w1.alloc (.cells #[.string cg, .int .i64 ch, .slice f1 n1 p1, .bool xany, .int .i64 till] 32) := ⟨_, rfl⟩
      have b1 : Below w1.heap.size w1 W1 := by rw [hW1]; exact (Below.refl _ _).alloc (Nat.le_refl _) _
      have hbx : W1.heap[w1.heap.size]? = some (.cells #[.string cg, .int .i64 ch, .slice f1 n1 p1, .bool xany, .int .i64 till] 32 (0, 0)) := by rw [hW1]; exact heap_alloc_new w1 _
      have d0 : W1.cell? ⟨w1.heap.size, 0, none⟩ = some (.string cg) := by simp [World.cell?, hbx]
      have d1 : W1.cell? ⟨w1.heap.size, 1, none⟩ = some (.int .i64 ch) := by simp [World.cell?, hbx]
      have d2 : W1.cell? ⟨w1.heap.size, 2, none⟩ = some (.slice f1 n1 p1) := by simp [World.cell?, hbx]
      have d3 : W1.cell? ⟨w1.heap.size, 3, none⟩ = some (.bool xany) := by simp [World.cell?, hbx]
      have d4 : W1.cell? ⟨w1.heap.size, 4, none⟩ = some (.int .i64 till) := by simp [World.cell?, hbx]
      have dl := lt_blk hbx
      have hA2 := (hA1.below b1).below ((Below.refl _ _).alloc (Nat.le_refl _) (.cells #[.string cg, .int .i64 ch, .slice f1 n1 p1, .bool xany, .int .i64 till] 32))
      have hbx2 : (W1.alloc (.cells #[.string cg, .int .i64 ch, .slice f1 n1 p1, .bool xany, .int .i64 till] 32)).heap[w1.heap.size]? = some (.cells #[.string cg, .int .i64 ch, .slice f1 n1 p1, .bool xany, .int .i64 till] 32 (0, 0)) := (Below.heap_alloc W1 _ _ dl).trans hbx
      have hst2 : StrIn (W1.alloc (.cells #[.string cg, .int .i64 ch, .slice f1 n1 p1, .bool xany, .int .i64 till] 32)) f1 n1 F := (hs1.below (Nat.le_refl _) b1).below (Nat.le_refl _) ((Below.refl _ _).alloc (Nat.le_refl _) _)
      have hne3 : ∀ k, (Value.slice a3 i c3).ownBlock = some k → k < wr.heap.size := fun k hk => (H.out.2.2.1.ro.row.lt k hk).2
      have hne5 : ∀ k, (Value.slice a5 n5 c5).ownBlock = some k → k < wr.heap.size := fun k hk => (H.out.2.2.1.al.lt k hk).2
      have HSRC : Hid _ := srcE W1 ⟨cg, ch, f1, n1, p1, xany, till, F⟩ W1.heap.size rfl
      have hrow := hA2.ro.row
      rw [H.out.1] at hrow
      have HRow : Hid _ := hrow
      have HA2 : Hid _ := hA2
      have HBX : Hid _ := hbx2
      have HST : Hid _ := hst2
      have HNE : Hid _ := (⟨hne3, hne5, hfr, hb1.size⟩ : _ ∧ _ ∧ _ ∧ _)
      have hws : w.heap.size ≤ W1.heap.size := by have := hA2.ro.bel.size; have := H.out.2.2.1.ro.bel.size; have := hb1.size; have := b1.size; omega
      have HAL : Hid _ := H.out.2.2.2
      have HYL : Hid (Y.length = i) := H.out.1
      have HN5 : Hid (n5 = all.length) := H.out.2.1
      clear hrow hA2 hbx2 hst2 hne3 hne5 hfr hA1 b1 hs1 hbx hb1
      go_upto_region 8 with fail
      rw [← hW1]
      clear hW1
      go_wp2_with (at_builtin; refine wpList_own_append5 _ rfl _ _ 22 22 rfl w.heap.size 32 j0 _ 64 Try.underlying22 hj hy0 hy1 hy2 rfl _ i (Y.flatMap Ep.cells) rfl HRow.out _ 1 (Ep.cells ⟨cg, ch, f1, n1, p1, xany, till, F⟩) rfl HSRC.out ?c3 ?c4 ?c5 ?_)
      case c3 => unfold maxLen; omega
      case c4 => omega
      case c5 => simp; omega
      intro v4 w4 ha4
      have hx4 := HA2.out.appE (x := ⟨cg, ch, f1, n1, p1, xany, till, F⟩) HST.out (by show n1 ≤ 100000; omega) (fun b hb => by
        obtain ⟨q1, q2⟩ := HNE.out.2.2.1 b hb
        exact ⟨by simp; omega, fun e => by have := HNE.out.1 _ e; omega, fun e => by have := HNE.out.2.1 _ e; omega⟩) (by rw [HYL.out]; exact ha4)
      have hbx4 := (ha4.grown.block w1.heap.size (by simp; omega) (fun e => by have := HNE.out.1 _ e.symm; have := HNE.out.2.2.2; omega)).trans HBX.out
      obtain ⟨a4, c4, hv4⟩ := ha4.shape
      subst hv4
      have H4 : Hid _ := hx4
      have g2 : w4.cell? ⟨w1.heap.size, 2, none⟩ = some (.slice f1 n1 p1) := by simp [World.cell?, hbx4]
      have g3 : w4.cell? ⟨w1.heap.size, 3, none⟩ = some (.bool xany) := by simp [World.cell?, hbx4]
      have gl := lt_blk hbx4
      clear hx4 ha4 HA2 HBX HST HNE HSRC HRow d0 d1 d2 d3 d4 dl hbx4 H
      go_upto_region 9 with fail
      go_cut [4] (fun v wx => v = .bool (any || xany) ∧ w4 = wx)
      case first =>
        cases any
        all_goals
          go_wp2_with fail
          go_meet
          exact ⟨by simp, rfl⟩
      case rest =>
        obtain ⟨rfl, hwx⟩ := hcut
        subst hwx
        have HAL2 : Hid (AllF (Y.map Ep.want ++ [(xany, [])]) (any || xany) all) := HAL.out.entry xany
        clear HAL
        generalize (any || xany) = any2 at HAL2
        go_wp2
        go_loopg [5, 45] n1 (fun kx s5 s45 wy => ∃ (k m5 e5 : Nat) (b5 : Option Addr) (all : List ByteArray), s45 = .int .i64 k ∧ k ≤ n1 ∧ kx = n1 - k ∧ s5 = .slice b5 m5 e5 ∧ m5 ≤ 20 * i + k ∧ Hid (m5 = all.length ∧ AnyS w wy (.slice a4 (i + 1) c4) (.slice b5 m5 e5) (Y ++ [⟨cg, ch, f1, n1, p1, xany, till, F⟩]) all ∧ AllF (Y.map Ep.want ++ [(xany, F.take k)]) any2 all))
        case atStart => exact ⟨0, n5, c5, a5, all, rfl, Nat.zero_le _, rfl, rfl, by omega, (⟨HN5.out, H4.out, HAL2.out⟩ : _ ∧ _ ∧ _)⟩
        case round =>
          clear H4 HAL2 HN5 g2 g3 gl hws
          obtain ⟨k, m5, e5, b5, all, rfl, hkn, rfl, rfl, hm5, H⟩ := hrel
          rename World => wy
          obtain ⟨hsF, _, _⟩ := H.out.2.1.ro.fil ⟨cg, ch, f1, n1, p1, xany, till, F⟩ (by simp)
          simp only at hsF
          have hFl : F.length = n1 := hsF.1
          by_cases hk : k < n1
          · obtain ⟨bf, of, hfa, hbf, hcf⟩ := hsF.2.resolve_left (by omega)
            have hFk : F.take (k + 1) = F.take k ++ [F.getD k ByteArray.empty] := by rw [List.take_succ_eq_append_getElem (by omega), getD_getElemL ByteArray.empty F k (by omega)]
            have hck := hcf k hk
            clear hcf hsF
            obtain ⟨f, hf⟩ : ∃ f, f = F.getD k ByteArray.empty := ⟨_, rfl⟩
            rw [← hf] at hFk hck
            have HFK : Hid _ := hFk
            clear hf hFk hFl
            subst hfa
            have hk0 : (0 : Int) ≤ (k : Int) := Int.natCast_nonneg _
            have hk1 : (k : Int) < (n1 : Int) := by omega
            go_wp2
            go_loopg [10, 51] m5 (fun kx s10 s51 wz => ∃ j : Nat, s51 = .int .i64 j ∧ j ≤ m5 ∧ kx = m5 - j ∧ s10 = .bool (hasS (all.take j) f) ∧ wy = wz)
            case atStart => exact ⟨0, rfl, Nat.zero_le _, rfl, by simp [hasS], rfl⟩
            case round =>
              obtain ⟨j, rfl, hjn, rfl, rfl, hwz⟩ := hrel
              subst hwz
              have hal := H.out.2.1.al
              rw [← H.out.1] at hal
              have hsA := strIn_own hal H.out.1
              have HO1 : Hid _ := hal
              clear hal
              by_cases hjm : j < m5
              · obtain ⟨bg, og, hga, hbg, hcg⟩ := hsA.2.resolve_left (by omega)
                have hcj := hcg j hjm
                have hst : hasS (all.take (j + 1)) f = (hasS (all.take j) f || (f.toList == (all.getD j ByteArray.empty).toList)) := by
                  have hl := hsA.1
                  rw [List.take_succ_eq_append_getElem (by omega), getD_getElemL ByteArray.empty all j (by omega)]
                  simp only [hasS, List.any_append, List.any_cons, List.any_nil, Bool.or_false]
                  rw [BEq.comm (a := all[j].toList)]
                clear hcg hsA HO1 H
                subst hga
                have hj0 : (0 : Int) ≤ (j : Int) := Int.natCast_nonneg _
                have hj1 : (j : Int) < (m5 : Int) := by omega
                generalize all.getD j ByteArray.empty = g at hcj hst
                cases hb : hasS (all.take j) f
                all_goals
                  rw [hb] at hst
                  have HS1 : Hid _ := hst
                  clear hst hb
                  go_wp2
                  go_roundg (m5 - (j + 1))
                  case measure => omega
                  case rel => exact ⟨j + 1, by go_num, by omega, rfl, by rw [HS1.out]; simp, rfl⟩
              · obtain rfl : j = m5 := by omega
                have htk : all.take j = all := by rw [H.out.1]; exact List.take_length
                rw [htk]
                have hF2 : AllF (Y.map Ep.want ++ [(xany, F.take (k + 1))]) any2 (if hasS all f then all else all ++ [f]) := by rw [HFK.out]; exact H.out.2.2.step
                clear hsA htk
                cases hb : hasS all f with
                | true =>
                  rw [hb] at hF2
                  have H5 : Hid (j = all.length ∧ AnyS w wy (.slice a4 (i + 1) c4) (.slice b5 j e5) (Y ++ [⟨cg, ch, some ⟨bf, of, none⟩, n1, p1, xany, till, F⟩]) all ∧ AllF (Y.map Ep.want ++ [(xany, F.take (k + 1))]) any2 all) := ⟨H.out.1, H.out.2.1, by simpa using hF2⟩
                  clear hb hF2 H
                  go_wp2
                  go_roundg (n1 - (k + 1))
                  case measure => omega
                  case rel => exact ⟨k + 1, j, e5, b5, all, by go_num, by omega, rfl, rfl, by omega, H5⟩
                | false =>
                  rw [hb] at hF2
                  have HF2 : Hid (AllF (Y.map Ep.want ++ [(xany, F.take (k + 1))]) any2 (all ++ [f])) := (by simpa using hF2 : AllF _ _ (all ++ [f]))
                  have H6 : Hid _ := H.out.2.1.below ((Below.refl _ _).alloc (Nat.le_refl _) (.cells #[.string f] 9))
                  have HS : Hid _ := srcTx wy f wy.heap.size rfl
                  have hal2 := H6.out.al
                  rw [← H.out.1] at hal2
                  have HO : Hid _ := hal2
                  have HLn : Hid (j = all.length) := H.out.1
                  have hws : w.heap.size ≤ wy.heap.size := H.out.2.1.ro.bel.size
                  clear hb hF2 H hal2 HO1
                  go_wp2_with (at_builtin; refine wpList_own_append _ rfl _ _ 30 30 rfl w.heap.size 9 i0 _ 16 Try.underlying30 hi hz0 hz1 hz2 rfl _ j (all.map Value.string) rfl HO.out _ 1 [.string f] rfl HS.out ?c3 ?c4 ?c5 ?_)
                  case c3 => unfold maxLen; omega
                  case c4 => omega
                  case c5 => simp; omega
                  intro v6 w6 ha6
                  have hA6 := H6.out.appS (f := f) (by rw [← HLn.out]; exact ha6)
                  obtain ⟨a6, c6, hv6⟩ := ha6.shape
                  subst hv6
                  have H5 : Hid (j + 1 = (all ++ [f]).length ∧ AnyS w w6 (.slice a4 (i + 1) c4) (.slice a6 (j + 1) c6) (Y ++ [⟨cg, ch, some ⟨bf, of, none⟩, n1, p1, xany, till, F⟩]) (all ++ [f]) ∧ AllF (Y.map Ep.want ++ [(xany, F.take (k + 1))]) any2 (all ++ [f])) := ⟨by rw [List.length_append, ← HLn.out]; rfl, hA6, HF2.out⟩
                  clear ha6 hA6 HF2 H6 HS HO
                  go_wp2
                  go_roundg (n1 - (k + 1))
                  case measure => omega
                  case rel => exact ⟨k + 1, j + 1, c6, a6, _, by go_num, by omega, rfl, rfl, by omega, H5⟩
          · obtain rfl : k = n1 := by omega
            have htk : F.take k = F := by rw [← hFl]; exact List.take_length
            rw [htk] at H
            have H7 : Hid ((Y ++ [(⟨cg, ch, f1, k, p1, xany, till, F⟩ : Ep)]).length = i + 1 ∧ m5 = all.length ∧ AnyS w wy (.slice a4 (i + 1) c4) (.slice b5 m5 e5) (Y ++ [⟨cg, ch, f1, k, p1, xany, till, F⟩]) all ∧ AllF ((Y ++ [(⟨cg, ch, f1, k, p1, xany, till, F⟩ : Ep)]).map Ep.want) any2 all) := ⟨by rw [List.length_append, HYL.out]; rfl, H.out.1, H.out.2.1, by rw [List.map_append]; exact H.out.2.2⟩
            clear H htk hsF hFl
            go_wp2
            go_roundg (12 - (i + 1))
            case measure => omega
            case rel => exact ⟨i + 1, m5, c4, e5, a4, b5, any2, _, all, by go_num, by omega, by omega, rfl, rfl, rfl, rfl, by omega, H7⟩
    · have hor : (True ∧ ¬ (i : Int) < (len0 : Int)) ∨ ((i : Int) < (len0 : Int) ∧ ¬ (i : Int) < 12) := by
        by_cases q : (i : Int) < (len0 : Int)
        · exact .inr ⟨q, by omega⟩
        · exact .inl ⟨trivial, q⟩
      clear hlt
      go_upto_region 5 with fail
      go_cut [25] (fun v wx => v = .bool false ∧ wr = wx)
      case first =>
        rcases hor with ⟨hor', hor⟩ | ⟨hor', hor⟩
        all_goals
          go_wp2_with fail
          go_meet
          exact ⟨by simp, rfl⟩
      case rest =>
        obtain ⟨rfl, hwx⟩ := hcut
        subst hwx
        clear hor
        have hent : EntIn wr a3 i Y := by
          have h1 := H.out.2.2.1.ro
          rw [← H.out.1] at h1 ⊢
          exact h1.ent (by have := H.out.1; omega)
        have HJ : Hid _ := join_any a3 i c3 Y wr hent
        clear hent
        by_cases hm : any = true ∨ 16 < n5
        · have HNo : Hid (joinE [] (Y.map Ep.want) = none) := H.out.2.2.2.many (hm.imp id (fun q => by rw [← H.out.2.1]; exact q))
          have HB : Hid (Below w.heap.size w wr) := H.out.2.2.1.ro.bel
          clear H
          go_wp2_with fail
          refine Calls.mono HJ.out ?_
          rintro e w9 (⟨_, rfl, hb9⟩ | ⟨acc, v, hj1, _⟩)
          · have H9 : Hid (Below w.heap.size w w9) := HB.out.trans (hb9.mono HB.out.size)
            clear hb9 HJ
            have hm2 : any = true ∨ (any = false ∧ (16 : Int) < (n5 : Int)) := by
              cases any with
              | true => exact .inl rfl
              | false => exact .inr ⟨rfl, by rcases hm with q | q; cases q; omega⟩
            clear hm
            rcases hm2 with hm | ⟨hm, hm'⟩
            all_goals
              subst hm
              go_wp2_with (go_at_call 14; refine (awake13_any _).mono ?_; rintro e w8 ⟨rfl, hb8⟩)
              go_ret
              exact ⟨ret_b (by simp), H9.out.trans (hb8.mono H9.out.size)⟩
          · rw [HNo.out] at hj1; cases hj1
        · have hany : any = false := by
            cases any with
            | true => exact absurd (.inl rfl) hm
            | false => rfl
          have hn16 : n5 ≤ 16 := by omega
          obtain ⟨r, hr, hra, hrl⟩ := H.out.2.2.2.few hany (by rw [← H.out.2.1]; omega)
          subst hany
          have HYes : Hid (joinE [] (Y.map Ep.want) = some r) := hr
          have HB : Hid (Below w.heap.size w wr) := H.out.2.2.1.ro.bel
          have HRA : Hid (Asc ltS r) := hra
          have HRL : Hid (n5 = r.length) := H.out.2.1.trans hrl.symm
          have hn17 : ¬ (16 : Int) < (n5 : Int) := by omega
          clear H hr hra hrl hm
          go_wp2_with fail
          refine Calls.mono HJ.out ?_
          rintro e w9 (⟨hj1, _⟩ | ⟨acc, v, hj1, rfl, hJ⟩)
          · rw [HYes.out] at hj1; cases hj1
          · obtain rfl : r = acc := by have := HYes.out.symm.trans hj1; injection this
            obtain ⟨a9, c9, hv9⟩ := hJ.shape
            subst hv9
            rw [← HRL.out] at hJ ⊢
            have hrow := hJ.row
            rw [← HRL.out] at hrow
            have HS9 : Hid (StrIn w9 a9 n5 r) := strIn_own hrow HRL.out
            have H9 : Hid (Below w.heap.size w w9) := HB.out.trans (hJ.bel.mono HB.out.size)
            clear hJ hrow hj1 HJ HB
            go_wp2
            go_loopg [91] n5 (fun kx s wz => ∃ j : Nat, s = .int .i64 j ∧ j ≤ n5 ∧ kx = n5 - j ∧ Hid (Below w9.heap.size w9 wz))
            case atStart => exact ⟨0, rfl, Nat.zero_le _, rfl, (Below.refl _ _ : Below _ _ _)⟩
            case round =>
              obtain ⟨j, rfl, hjn, rfl, HW⟩ := hrel
              rename World => wz
              have hS := HS9.out.below (Nat.le_refl _) HW.out
              by_cases hjm : j < n5
              · have hj0 : (0 : Int) ≤ (j : Int) := Int.natCast_nonneg _
                have hj1 : (j : Int) < (n5 : Int) := by omega
                have HW2 : Hid (∀ n, Below w9.heap.size w9 (wz.drewN n)) := fun n => HW.out.trans ⟨rfl, rfl, rfl, Nat.le_refl _, fun _ _ => rfl⟩
                obtain ⟨bg, og, hga, hbg, hcg⟩ := hS.2.resolve_left (by omega)
                subst hga
                have c1 := hcg j hjm
                by_cases hz : j = 0
                · subst hz
                  clear hcg
                  simp only [Nat.add_zero] at c1
                  generalize r.getD 0 ByteArray.empty = s1 at c1
                  go_upto_region 28 with fail
                  go_quiet (fail)
                  all_goals go_wp2
                  all_goals go_roundg (n5 - (0 + 1))
                  all_goals first
                    | exact ⟨0 + 1, by first | rfl | go_num, by omega, rfl, (HW2.out _ : Below _ _ _)⟩
                    | exact ⟨0 + 1, by first | rfl | go_num, by omega, rfl, HW⟩
                    | omega
                · have c0 := hcg (j - 1) (by omega)
                  clear hcg
                  obtain ⟨m, hm⟩ : ∃ m, m = j - 1 := ⟨_, rfl⟩
                  have hlt := (List.pairwise_iff_getElem.1 HRA.out) m j (by rw [← HRL.out]; omega) (by rw [← HRL.out]; omega) (by omega)
                  rw [← getD_getElemL ByteArray.empty r m (by rw [← HRL.out]; omega), ← getD_getElemL ByteArray.empty r j (by rw [← HRL.out]; omega)] at hlt
                  rw [← hm] at c0
                  have hsub : (j : Int) - 1 = (m : Int) := by omega
                  have hm0 : (0 : Int) ≤ (m : Int) := by omega
                  have hm1 : (m : Int) < (n5 : Int) := by omega
                  have hjp : (0 : Int) < (j : Int) := by omega
                  have hjq : 0 < j := by omega
                  generalize r.getD m ByteArray.empty = s1 at c0 hlt
                  generalize r.getD j ByteArray.empty = s2 at c1 hlt
                  have hlt2 : Op.bytesLess s1.toList s2.toList = true := hlt
                  clear hm hlt
                  go_upto_region 28 with fail
                  go_quiet (fail)
                  all_goals go_wp2
                  all_goals go_roundg (n5 - (j + 1))
                  all_goals first
                    | exact ⟨j + 1, by first | rfl | go_num, by omega, rfl, (HW2.out _ : Below _ _ _)⟩
                    | exact ⟨j + 1, by first | rfl | go_num, by omega, rfl, HW⟩
                    | omega
              · obtain rfl : j = n5 := by omega
                have HW3 : Hid (Below w.heap.size w wz) := H9.out.trans (HW.out.mono H9.out.size)
                clear hS
                go_wp2_with (go_at_call 14; refine (awake13_any _).mono ?_; rintro e w8 ⟨rfl, hb8⟩)
                go_ret
                exact ⟨ret_b (by simp), HW3.out.trans (hb8.mono HW3.out.size)⟩

/-! ### The row's step -/
set_option maxRecDepth 100000 in
theorem lifted (os : Os) (started : os.Started) (H : Type) (enc : TypeId × Value → H) :
    ReturnsInHanded {} Try.checked os 6 .any (Rows.tableAnySpec.pre6 enc Try.prog Try.f6 Rows.tableAnyRow.domain false) (Rows.tableAnySpec.post enc Try.prog Try.f6 false true false false) := by
  refine returnsInHanded_of_change (C := Try.checked) own started (by kernel_rfl) Try.func6
    (ChangeSpec.witness6 (enc := enc) (C := Try.checked) false ⟨#[], #[.slice none 0 0], []⟩ 8 (by kernel_rfl) (by kernel_rfl) (by kernel_rfl) (by kernel_rfl)) ?_
  intro W base args ds gs before hval0 hW hcnd _
  have hval : ∀ (j : Nat) t v, Try.f6.params[j]? = some t → args[j]? = some v → Value.okWide Try.prog W .any base t v := hval0
  have hW' := hW
  obtain ⟨p, q, hA0, hV, rfl, hfz, hnd⟩ := hW
  have hA : DataW.TrodAll enc Try.prog W 0 (fun _ => true) true Try.f6.params.toList args.toList ds p := hA0
  rw [Try.params6] at hA hval
  obtain ⟨v0, vs0, d0, ds0, p0, q0, hargs, rfl, rfl, h0, r0⟩ := trodAll_cons hA
  obtain ⟨rfl, rfl, rfl⟩ := trodAll_nil r0
  obtain rfl : args = #[v0] := by cases args; simp_all
  obtain ⟨rfl, rfl⟩ := trodVars_none hV
  obtain ⟨a0, len0, cap0, rfl⟩ := okWide_slice Try.underlying22 (hval 0 22 v0 rfl rfl)
  have k0 := h0
  have lt0 : ∀ x ∈ p0, x.block < W.heap.size := by obtain ⟨m, hm⟩ := k0; exact DataW.trod_lt m _ _ _ hm
  obtain ⟨t0, w0⟩ : ∃ ts, InRow 5 Ep.cells (EpOk W) ep0 W a0 len0 ts := by
    obtain ⟨fuel, hf⟩ := h0
    exact inrow_of 5 Ep.cells (EpOk W) ep0 22 32 Try.underlying22 cellsEnt (by omega) Ep.cells_len (fun n cs x => ent_of n cs x) hf
  clear hA0 hval0
  refine (walk a0 len0 cap0 t0 W w0).mono fun e W' ⟨he, bel⟩ => ?_
  subst he
  exact ⟨_, rfl, _, _, _, [], _, [], hW', trodAll_mk1 (shut_bool Try.underlying4 _), (trodAll_cons_mk (Below.trod laidOut (by kernel_rfl) (of_decide_eq_true (by kernel_rfl)) k0 bel lt0) trodAll_mk0), rfl, bel.frame _, fun h => by cases h⟩

theorem over : Rows.tableAnyRow.holds Try.pinned (OpenSpec.ofChange Rows.tableAnySpec) :=
  OpenClaim.holds_of_wide 6 Try.f6 rfl rfl rfl rfl rfl rfl rfl ⟨rfl, rfl, rfl, rfl, rfl⟩ rfl rfl rfl rfl rfl (by kernel_rfl) Try.func6 (by kernel_rfl)
    (of_decide_eq_true (by kernel_rfl)) (by unfold Func.isWrapper; first | (rw [if_pos (by decide +kernel)]; kernel_rfl) | (rw [if_neg (by decide +kernel)]; exact ⟨rfl, rfl⟩))
    (fun os started H enc _ => lifted os started H enc)

end Go.Proofs.Ytmnlbheicedloaa.tableAny

namespace Go.Proofs.Ytmnlbheicedloaa
/-- Proved: for every list of entries, TableAny answers true (what several want is all, if one of them wants all, or if they are too many; else just the filters that are there). -/
theorem tableAny_holds : Rows.TableAnySaid := tableAny.over
#print axioms tableAny_holds
end Go.Proofs.Ytmnlbheicedloaa
