/- For every list of places, every list of calls and every list of addresses: whoever looks, nobody comes or goes by it; each one's place stays.
  The frame is the guide's own shell (proof-skeleton.mjs) at this function; the walk and all ahead of it are mine. -/
import Derived.Test.YtfobnkogfgcdaaaRows
import Derived.Test.YtfobnkogfgcdaaaChAct
import Derived.Deep.CutBlock
import Derived.Deep.DeepCutAuto
import Derived.Deep.LoopGhost
import Derived.Deep.QuietTactic
import Derived.BigQuiet
import Derived.WalkKit
import Derived.WalkLawsBesides
import Derived.ProofKit
import Derived.OpenShut
import Derived.ShutString
import Derived.ChangeOld
import Derived.Below
namespace Go.Proofs.Ytfobnkogfgcdaaa.chordSame
open Go.ChangeShapes Go.WideShapes Go.ChangeAt Go.RowKit
open Go.ChangeMaps (open_string shut_string)
set_option linter.unusedVariables false

theorem own : ownKnob Try.prog.godebug = none := by kernel_rfl
theorem laidOut : laidOutB Try.prog = true := by kernel_rfl


def cellU (n : Int) : Value := .int .u64 n
theorem uids_of_own {w : World} {B n : Nat} {a : Option Addr} {c : Nat} {l : List Int} (h : w.ownsRow B 32 1 (.slice a n c) n (l.map cellU)) {i : Nat} (hi : i < n) : ∃ g, a = some ⟨g, 0, none⟩ ∧ g < w.heap.size ∧ w.cell? ⟨g, i, none⟩ = some (.int .u64 (l.getD i 0)) := by
  have hl : l.length = n := by have := h.1; simpa using this
  rcases h.2 with ⟨h0, h1⟩ | ⟨g, cap, cur, hv, hb, hg, hnc, _⟩
  · omega
  · simp at hv
    obtain ⟨rfl, rfl⟩ := hv
    have hil : i < l.length := by omega
    have e := h.cells (g := g) rfl i (cellU l[i]) (by simp [hil])
    have ea : (⟨g, 0, none⟩ : Addr).add i = ⟨g, i, none⟩ := by unfold Addr.add; split <;> simp_all
    rw [ea] at e
    refine ⟨g, rfl, cell_block e, ?_⟩
    rw [e]
    simp [List.getD, hil, cellU]
/-- A list of ints keeps, whatever the ring's maps. -/
theorem RingAt.ints {w w' : World} {r gp gk : Nat} {R : Rg} (h : RingAt w r gp gk R) (k : Kp w w' gp gk) {a : Option Addr} {len : Nat} {l : List Int} (hl : InIn w a len l) : InIn w' a len l := by
  obtain ⟨mp, hmp, _⟩ := h.places
  obtain ⟨mk, hmk, _⟩ := h.known
  exact InRow.kp hl k hmp hmk
theorem err_nil (c : Int) : (errV c = .nilIface ∧ c = 0) ∨ (errV c = .iface 40 (.int .i64 c) ∧ c ≠ 0) := by
  unfold errV
  by_cases h : c = 0
  · exact .inl ⟨if_pos h, h⟩
  · exact .inr ⟨if_neg h, h⟩
/-! ### STEP 1: the walk -/
set_option maxRecDepth 100000 in
set_option maxHeartbeats 2000000 in
theorem walk (a0 : Option Addr) (len0 cap0 : Nat) (t0 : List Int) (a1 : Option Addr) (len1 cap1 : Nat) (t1 : List Ac10) (a2 : Option Addr) (len2 cap2 : Nat) (t2 : List Int) (w : World) (w0 : InRow 1 encU Go.Proofs.Ytfobnkogfgcdaaa.u64 0 w a0 len0 t0) (w1 : InRow 4 Ac10.cells Ac10.ok ac100 w a1 len1 t1) (w2 : InRow 1 encI i64 0 w a2 len2 t2) :
    Calls Try.prog 5 #[.slice a0 len0 cap0, .slice a1 len1 cap1, .slice a2 len2 cap2] w fun e w' => e = .returned (.bool true) ∧ Below w.heap.size w w' := by
  have HI : Hid (IdIn w a0 len0 t0) := w0
  have HT : Hid (AcIn w a1 len1 t1) := w1
  have HL : Hid (InIn w a2 len2 t2) := w2
  have hm0 := w0.2.1
  have hm1 := w1.2.1
  have hm2 := w2.2.1
  clear w0 w1 w2
  by_cases q4 : len0 ≠ 4
  · go_enter Try.func5, Try.ntmps5
    go_wp2_with fail
    refine (new_len a0 len0 cap0 _ q4 hm0).mono ?_
    rintro e w2 ⟨rfl, b2⟩
    have B2 : Hid (Below w.heap.size w w2) := b2
    clear b2
    go_wp2_with (go_at_call 8; refine (awake10_any _).mono ?_; rintro e w' ⟨rfl, hb⟩)
    go_ret
    exact ⟨rfl, B2.out.trans (hb.mono B2.out.size)⟩
  obtain rfl : len0 = 4 := by omega
  clear q4
  go_enter Try.func5, Try.ntmps5
  go_wp2_with fail
  refine (new_four a0 cap0 t0 _ HI.out).mono ?_
  rintro e w2 ⟨h2, b2⟩
  have B2 : Hid (Below w.heap.size w w2) := b2
  clear b2
  rcases h2 with ⟨S, hp, hm, hl, rfl⟩ | ⟨S, r, gp, gk, hp, hm, hl, rfl, hr, g1, g2, g3⟩
  · clear hp hm hl
    go_wp2_with (go_at_call 8; refine (awake10_any _).mono ?_; rintro e w' ⟨rfl, hb⟩)
    go_ret
    exact ⟨rfl, B2.out.trans (hb.mono B2.out.size)⟩
  have HG : Hid (w.heap.size ≤ gp ∧ w.heap.size ≤ gk) := ⟨g2, g3⟩
  have H2 : Hid (∃ R, RingAt w2 r gp gk R ∧ Below w.heap.size w w2) := ⟨_, hr, B2.out⟩
  clear hp hm hl hr g1 g2 g3 B2
  go_wp2
  go_loopg [9] len1 (fun kx s wr => ∃ k : Nat, s = .int .i64 k ∧ k ≤ len1 ∧ k ≤ 40 ∧ kx = len1 - k ∧ Hid (∃ R, RingAt wr r gp gk R ∧ Below w.heap.size w wr))
  case atStart => exact ⟨0, rfl, Nat.zero_le _, by omega, rfl, H2⟩
  case round =>
    obtain ⟨k, rfl, hk, hk40, rfl, HB⟩ := hrel
    clear H2
    obtain ⟨R, hR, hB⟩ := HB.out
    have HR : Hid (RingAt wr r gp gk R ∧ Below w.heap.size w wr) := ⟨hR, hB⟩
    clear hR hB HB
    by_cases hlt : k < len1 ∧ k < 40
    · obtain ⟨hlt, h40⟩ := hlt
      obtain ⟨b, o, rfl, hbb, hok, x0, x1, x2, x3⟩ := AcIn.at (HT.out.below (Nat.le_refl _) HR.out.2) hlt
      generalize t1.getD k ac100 = t at hok x0 x1 x2 x3
      obtain ⟨kd, n, via, id⟩ := t
      have HO : Hid (Ac10.ok ⟨kd, n, via, id⟩) := hok
      clear hok
      simp only at x0 x1 x2 x3
      have Ha : Hid (RingAt (wr.alloc (.cells #[.int .i64 kd, .int .i64 n, .int .i64 via, .int .u64 id] 34)) r gp gk R ∧ Below w.heap.size w (wr.alloc (.cells #[.int .i64 kd, .int .i64 n, .int .i64 via, .int .u64 id] 34))) := ⟨HR.out.1.below (below_one _ _), HR.out.2.trans ((below_one _ _).mono HR.out.2.size)⟩
      by_cases k1 : kd = 1
      · subst k1
        go_wp2_with (go_at_call 10; refine (join_r r gp gk R n id via _ Ha.out.1 HO.out.2.2.2 HO.out.2.2.1).mono ?_; rintro e w4 ⟨rfl, h4, k4⟩)
        go_roundg (len1 - (k + 1))
        case measure => omega
        case rel => exact ⟨k + 1, by go_num, by omega, by omega, rfl, (⟨_, h4, Ha.out.2.trans (k4.below HG.out.1 HG.out.2 Ha.out.2.size)⟩ : ∃ R, RingAt w4 r gp gk R ∧ Below w.heap.size w w4)⟩
      · have k1' : (kd == 1) = false := by simpa using k1
        by_cases k2 : kd = 2
        · subst k2
          go_wp2_with (go_at_call 11; refine (fail_r r gp gk R n _ Ha.out.1).mono ?_; rintro e w4 ⟨rfl, h4, k4⟩)
          go_roundg (len1 - (k + 1))
          case measure => omega
          case rel => exact ⟨k + 1, by go_num, by omega, by omega, rfl, (⟨_, h4, Ha.out.2.trans (k4.below HG.out.1 HG.out.2 Ha.out.2.size)⟩ : ∃ R, RingAt w4 r gp gk R ∧ Below w.heap.size w w4)⟩
        · have k2' : (kd == 2) = false := by simpa using k2
          go_wp2
          go_roundg (len1 - (k + 1))
          case measure => omega
          case rel => exact ⟨k + 1, by go_num, by omega, by omega, rfl, (⟨_, Ha.out.1, Ha.out.2⟩ : ∃ R, RingAt (wr.alloc (.cells #[.int .i64 kd, .int .i64 n, .int .i64 via, .int .u64 id] 34)) r gp gk R ∧ Below w.heap.size w (wr.alloc (.cells #[.int .i64 kd, .int .i64 n, .int .i64 via, .int .u64 id] 34)))⟩
    · have hq : k < len1 → ¬ k < 40 := fun h1 h2 => hlt ⟨h1, h2⟩
      clear hlt
      obtain ⟨w5, hw5⟩ : ∃ w5, w5 = wr := ⟨_, rfl⟩
      rw [← hw5] at HR ⊢
      clear hw5
      obtain ⟨i1, hi, hz0, hz1, hz2⟩ := info_of Try.infoId
      by_cases q1 : k < len1
      all_goals
        first
          | (have q2 : ¬ k < 40 := hq q1
             clear hq
             go_wp2_with fail)
          | (clear hq
             go_wp2_with fail)
        refine (live_r r gp gk R _ HR.out.1).mono ?_
        rintro e w6 ⟨la, lc, rfl, hL, _, b6⟩
        obtain ⟨L, hLL⟩ : ∃ L, L = R.live := ⟨_, rfl⟩
        rw [← hLL] at hL ⊢
        have HE : Hid (L = R.live) := hLL
        have hL32 : L.length ≤ 32 := by rw [hLL]; exact liveTo_len R 32
        have H6 : Hid (RingAt w6 r gp gk R ∧ Below w.heap.size w w6 ∧ InIn w6 la L.length L) := ⟨HR.out.1.below b6, HR.out.2.trans (b6.mono HR.out.2.size), hL⟩
        clear hL hLL b6
        go_wp2
        go_loopg [72, 12] L.length (fun kx s v wr => ∃ j : Nat, s = .int .i64 j ∧ j ≤ L.length ∧ kx = L.length - j ∧ Hid (Below w6.heap.size w6 wr) ∧ Hid (wr.ownsRow w6.heap.size 32 1 v j (((L.take j).map R.idOf).map cellU)))
        case atStart => exact ⟨0, rfl, Nat.zero_le _, rfl, below_one _ _, (⟨rfl, .inr ⟨w6.heap.size, 0, #[], rfl, Nat.le_refl _, heap_alloc_new w6 _, Nat.le_refl _, by decide, rfl, rfl⟩⟩ : (w6.alloc (.cells #[] 32)).ownsRow w6.heap.size 32 1 (.slice (some ⟨w6.heap.size, 0, none⟩) 0 0) 0 [])⟩
        case round =>
          obtain ⟨j, rfl, hj, rfl, HB, HO⟩ := hrel
          by_cases hlt : j < L.length
          · obtain ⟨b, o, rfl, hbb, _, hc⟩ := (H6.out.2.2.below (Nat.le_refl _) HB.out).one (v := Value.int .i64) (fun _ => rfl) (i := j) hlt
            have HEE : Hid (((L.take (j + 1)).map R.idOf).map cellU = ((L.take j).map R.idOf).map cellU ++ [cellU (R.idOf (L.getD j 0))]) := by
              show ((L.take (j + 1)).map R.idOf).map cellU = _
              have e : L.getD j 0 = L[j] := by simp [List.getD, hlt]
              rw [List.take_succ_eq_append_getElem hlt, List.map_append, List.map_append, e]; rfl
            generalize L.getD j 0 = x at hc HEE
            go_wp2_with fail
            refine (id_r r gp gk R x _ (H6.out.1.below HB.out)).mono ?_
            rintro e w7 ⟨rfl, rfl⟩
            generalize R.idOf x = y at HEE
            have HO2 : Hid ((w7.alloc (.cells #[.int .u64 y] 32)).ownsRow w6.heap.size 32 1 u12 j (((L.take j).map R.idOf).map cellU)) := HO.out.alloc (.cells #[.int .u64 y] 32)
            have HSr : Hid (Src Try.prog 1 22 (.slice (some ⟨w7.heap.size, 0, none⟩) 1 1) 1 [cellU y] (w7.alloc (.cells #[.int .u64 y] 32))) := Src.ofSlice _ Try.underlying22 _ _ _ _ rfl (World.news_of_block (cs := #[.int .u64 y]) (t := 32) (fr := (0, 0)) (heap_alloc_new w7 _)) (by simp [cellU, Value.oneCell'])
            go_wp2_with (at_builtin; refine wpList_own_append _ rfl _ _ 22 22 rfl w6.heap.size 32 i1 _ 8 Try.underlying22 hi hz0 hz1 hz2 rfl _ _ _ rfl HO2.out _ 1 [cellU y] rfl HSr.out ?c3 ?c4 ?c5 ?_)
            case c3 => unfold maxLen; omega
            case c4 => omega
            case c5 => have := HB.out.size; simp; omega
            intro v' w8 ha
            have HA : Hid _ := ha
            clear ha
            go_wp2
            go_roundg (L.length - (j + 1))
            case measure => omega
            case rel =>
              refine ⟨j + 1, by go_num, by omega, rfl, ?_, ?_⟩
              · have hg := HA.out.grown
                have b3 : Below w6.heap.size w6 (w7.alloc (.cells #[.int .u64 y] 32)) := HB.out.trans ((below_one _ _).mono HB.out.size)
                exact b3.trans ⟨hg.os, hg.tape, hg.output, hg.size, fun b hb1 => hg.block b (by have := b3.size; omega) (fun e => by have := (World.ownsRow.lt HO2.out b e.symm).1; omega)⟩
              · have hr := HA.out.row
                rw [← List.map_take, ← List.map_map] at hr
                rw [HEE.out]
                exact hr
          · obtain rfl : j = L.length := by omega
            obtain ⟨w8, hw8⟩ : ∃ w8, w8 = wr := ⟨_, rfl⟩
            rw [← hw8] at HB HO ⊢
            clear hw8
            have HO8 : Hid (w8.ownsRow w6.heap.size 32 1 u12 L.length ((L.map R.idOf).map cellU)) := by have h := HO.out; rw [List.take_length] at h; exact h
            obtain ⟨pa, pc, hpv⟩ : ∃ pa pc, u12 = .slice pa L.length pc := by
              rcases HO8.out.2 with ⟨h0, h1⟩ | ⟨g, cap, cur, hv, _⟩
              · exact ⟨none, 0, by rw [h0, h1]⟩
              · exact ⟨_, _, hv⟩
            subst hpv
            have HPL : Hid (∀ i, i < L.length → ∃ g, pa = some ⟨g, 0, none⟩ ∧ w6.heap.size ≤ g ∧ w8.cell? ⟨g, i, none⟩ = some (.int .u64 ((L.map R.idOf).getD i 0))) := fun i hi => by
              obtain ⟨g, h1, _, h3⟩ := uids_of_own HO8.out hi
              exact ⟨g, h1, by have := own_new HO8.out _ h1; simpa using this, h3⟩
            have H8 : Hid (∃ R', RingAt w8 r gp gk R' ∧ Alike R R' ∧ Below w.heap.size w w8 ∧ InIn w8 la L.length L ∧ (∀ i, i < L.length → ∃ g, pa = some ⟨g, 0, none⟩ ∧ w6.heap.size ≤ g ∧ w8.cell? ⟨g, i, none⟩ = some (.int .u64 ((L.map R.idOf).getD i 0)))) := ⟨R, H6.out.1.below HB.out, Alike.refl R, H6.out.2.1.trans (HB.out.mono H6.out.2.1.size), H6.out.2.2.below (Nat.le_refl _) HB.out, HPL.out⟩
            have HGK : Hid (gp < w6.heap.size ∧ gk < w6.heap.size) := H6.out.1.lt.2
            clear HPL HO HO8 HB H6
            go_wp2
            go_loopg [15] len2 (fun kx s wr => ∃ m : Nat, s = .int .i64 m ∧ m ≤ len2 ∧ m ≤ 40 ∧ kx = len2 - m ∧ Hid (∃ R', RingAt wr r gp gk R' ∧ Alike R R' ∧ Below w.heap.size w wr ∧ InIn wr la L.length L ∧ (∀ i, i < L.length → ∃ g, pa = some ⟨g, 0, none⟩ ∧ w6.heap.size ≤ g ∧ wr.cell? ⟨g, i, none⟩ = some (.int .u64 ((L.map R.idOf).getD i 0)))))
            case atStart => exact ⟨0, rfl, Nat.zero_le _, by omega, rfl, H8⟩
            case round =>
              obtain ⟨m, rfl, hm, hm40, rfl, HB⟩ := hrel
              clear H8
              obtain ⟨R', h1, h2, h3, h4, h5⟩ := HB.out
              have HN : Hid (RingAt wr r gp gk R' ∧ Alike R R' ∧ Below w.heap.size w wr ∧ InIn wr la L.length L ∧ (∀ i, i < L.length → ∃ g, pa = some ⟨g, 0, none⟩ ∧ w6.heap.size ≤ g ∧ wr.cell? ⟨g, i, none⟩ = some (.int .u64 ((L.map R.idOf).getD i 0)))) := ⟨h1, h2, h3, h4, h5⟩
              clear h1 h2 h3 h4 h5 HB
              by_cases hlt : m < len2 ∧ m < 40
              · obtain ⟨hlt, h40⟩ := hlt
                obtain ⟨b, o, rfl, hbb, hx, hcx⟩ := (HL.out.below (Nat.le_refl _) HN.out.2.2.1).one (v := Value.int .i64) (fun _ => rfl) (i := m) hlt
                obtain ⟨x, hxe⟩ : ∃ x, t2.getD m 0 = x := ⟨_, rfl⟩
                rw [hxe] at hx hcx
                have HXE : Hid (t2.getD m 0 = x) := hxe
                have HX : Hid (i64 x) := hx
                clear hx hxe
                cases hlv : R'.lives x
                · skip
                  have HQ : Hid (R'.lives x = false) := hlv
                  have HC : Hid (errV (R'.stabC x) = .iface 40 (.int .i64 6)) := by show errV (R'.stabC x) = _; rw [show R'.stabC x = 6 by simp [Rg.stabC, hlv]]; rfl
                  clear hlv
                  go_wp2_with fail
                  refine (stab_r r gp gk R' x _ HN.out.1 HX.out).mono ?_
                  rintro e w9 ⟨rfl, h9, k9⟩
                  rw [HC.out]
                  have H9 : Hid (RingAt w9 r gp gk (R'.stab x) ∧ Alike R (R'.stab x) ∧ Below w.heap.size w w9 ∧ InIn w9 la L.length L ∧ (∀ i, i < L.length → ∃ g, pa = some ⟨g, 0, none⟩ ∧ w6.heap.size ≤ g ∧ w9.cell? ⟨g, i, none⟩ = some (.int .u64 ((L.map R.idOf).getD i 0)))) :=
                    ⟨h9, HN.out.2.1.trans (stab_alike R' x), HN.out.2.2.1.trans (k9.below HG.out.1 HG.out.2 HN.out.2.2.1.size), RingAt.ints HN.out.1 k9 HN.out.2.2.2.1, fun i hi => by
                      obtain ⟨g, g1, g2, g3⟩ := HN.out.2.2.2.2 i hi
                      exact ⟨g, g1, g2, k9.cell g3 (by have := HGK.out; show g ≠ gp; omega) (by have := HGK.out; show g ≠ gk; omega)⟩⟩
                  clear h9 k9
                  obtain ⟨b', o', e', hbb', _, hc'⟩ := (HL.out.below (Nat.le_refl _) H9.out.2.2.1).one (v := Value.int .i64) (fun _ => rfl) (i := m) hlt
                  simp at e'
                  obtain ⟨rfl, rfl⟩ := e'
                  rw [HXE.out] at hc'
                  clear hcx
                  have HQ2 : Hid ((R'.stab x).lives x = false) := (stab_lives R' x).trans HQ.out
                  obtain ⟨ι, F, _, hF0, hFb, hFc⟩ := grown_fam w9
                  have F0 : ∀ i, (F i).cell? ⟨b, o + m, none⟩ = some (.int .i64 x) := fun i => cell_grown hc' (hFb i)
                  have HF : Hid ((∃ i, { w9 with drawn := w9.drawn + 1 } = F i) ∧ (∀ i, Below w9.heap.size w9 (F i)) ∧ (∀ i W, Below w9.heap.size (F i) W → ∃ j, W = F j)) := ⟨hF0, hFb, hFc⟩
                  clear hF0 hFb hFc
                  go_upto_region 24 with fail
                  refine wp_region_fam F HF.out.1 (by kernel_rfl) (by kernel_rfl) ?_
                  repeat (go_big_quiet_step (first
                    | (go_at_call 14; refine (lives_r _ _ _ _ _ _ (H9.out.1.below (HF.out.2.1 _))).mono ?_; rintro e' w' ⟨hs, hb⟩; exact ⟨by rw [hs, HQ2.out], HF.out.2.2 _ _ (hb.mono (HF.out.2.1 _).size)⟩)))
                  refine wpQuiet_nil ?_
                  rintro _ ⟨i, rfl⟩
                  have BF := HF.out.2.1 i
                  have H10 : Hid (∃ R', RingAt (F i) r gp gk R' ∧ Alike R R' ∧ Below w.heap.size w (F i) ∧ InIn (F i) la L.length L ∧ (∀ j, j < L.length → ∃ g, pa = some ⟨g, 0, none⟩ ∧ w6.heap.size ≤ g ∧ (F i).cell? ⟨g, j, none⟩ = some (.int .u64 ((L.map R.idOf).getD j 0)))) :=
                    ⟨_, H9.out.1.below BF, H9.out.2.1, H9.out.2.2.1.trans (BF.mono H9.out.2.2.1.size), H9.out.2.2.2.1.below (Nat.le_refl _) BF, fun j hj => by
                      obtain ⟨g, g1, g2, g3⟩ := H9.out.2.2.2.2 j hj
                      exact ⟨g, g1, g2, cell_grown g3 BF⟩⟩
                  clear BF F0
                  generalize F i = Wn at H10
                  go_wp2
                  go_roundg (len2 - (m + 1))
                  case measure => omega
                  case rel => exact ⟨m + 1, by go_num, by omega, by omega, rfl, H10⟩
                · skip
                  have HQ : Hid (R'.lives x = true) := hlv
                  have HC : Hid (errV (R'.stabC x) = .nilIface) := by show errV (R'.stabC x) = _; rw [show R'.stabC x = 0 by simp [Rg.stabC, hlv]]; rfl
                  clear hlv
                  go_wp2_with fail
                  refine (stab_r r gp gk R' x _ HN.out.1 HX.out).mono ?_
                  rintro e w9 ⟨rfl, h9, k9⟩
                  rw [HC.out]
                  have H9 : Hid (RingAt w9 r gp gk (R'.stab x) ∧ Alike R (R'.stab x) ∧ Below w.heap.size w w9 ∧ InIn w9 la L.length L ∧ (∀ i, i < L.length → ∃ g, pa = some ⟨g, 0, none⟩ ∧ w6.heap.size ≤ g ∧ w9.cell? ⟨g, i, none⟩ = some (.int .u64 ((L.map R.idOf).getD i 0)))) :=
                    ⟨h9, HN.out.2.1.trans (stab_alike R' x), HN.out.2.2.1.trans (k9.below HG.out.1 HG.out.2 HN.out.2.2.1.size), RingAt.ints HN.out.1 k9 HN.out.2.2.2.1, fun i hi => by
                      obtain ⟨g, g1, g2, g3⟩ := HN.out.2.2.2.2 i hi
                      exact ⟨g, g1, g2, k9.cell g3 (by have := HGK.out; show g ≠ gp; omega) (by have := HGK.out; show g ≠ gk; omega)⟩⟩
                  clear h9 k9
                  obtain ⟨b', o', e', hbb', _, hc'⟩ := (HL.out.below (Nat.le_refl _) H9.out.2.2.1).one (v := Value.int .i64) (fun _ => rfl) (i := m) hlt
                  simp at e'
                  obtain ⟨rfl, rfl⟩ := e'
                  rw [HXE.out] at hc'
                  clear hcx
                  have HQ2 : Hid ((R'.stab x).lives x = true) := (stab_lives R' x).trans HQ.out
                  obtain ⟨ι, F, _, hF0, hFb, hFc⟩ := grown_fam w9
                  have F0 : ∀ i, (F i).cell? ⟨b, o + m, none⟩ = some (.int .i64 x) := fun i => cell_grown hc' (hFb i)
                  have HF : Hid ((∃ i, { w9 with drawn := w9.drawn + 1 } = F i) ∧ (∀ i, Below w9.heap.size w9 (F i)) ∧ (∀ i W, Below w9.heap.size (F i) W → ∃ j, W = F j)) := ⟨hF0, hFb, hFc⟩
                  clear hF0 hFb hFc
                  go_upto_region 24 with fail
                  refine wp_region_fam F HF.out.1 (by kernel_rfl) (by kernel_rfl) ?_
                  repeat (go_big_quiet_step (first
                    | (go_at_call 14; refine (lives_r _ _ _ _ _ _ (H9.out.1.below (HF.out.2.1 _))).mono ?_; rintro e' w' ⟨hs, hb⟩; exact ⟨by rw [hs, HQ2.out], HF.out.2.2 _ _ (hb.mono (HF.out.2.1 _).size)⟩)))
                  refine wpQuiet_nil ?_
                  rintro _ ⟨i, rfl⟩
                  have BF := HF.out.2.1 i
                  have H10 : Hid (∃ R', RingAt (F i) r gp gk R' ∧ Alike R R' ∧ Below w.heap.size w (F i) ∧ InIn (F i) la L.length L ∧ (∀ j, j < L.length → ∃ g, pa = some ⟨g, 0, none⟩ ∧ w6.heap.size ≤ g ∧ (F i).cell? ⟨g, j, none⟩ = some (.int .u64 ((L.map R.idOf).getD j 0)))) :=
                    ⟨_, H9.out.1.below BF, H9.out.2.1, H9.out.2.2.1.trans (BF.mono H9.out.2.2.1.size), H9.out.2.2.2.1.below (Nat.le_refl _) BF, fun j hj => by
                      obtain ⟨g, g1, g2, g3⟩ := H9.out.2.2.2.2 j hj
                      exact ⟨g, g1, g2, cell_grown g3 BF⟩⟩
                  clear BF F0
                  generalize F i = Wn at H10
                  go_wp2
                  go_roundg (len2 - (m + 1))
                  case measure => omega
                  case rel => exact ⟨m + 1, by go_num, by omega, by omega, rfl, H10⟩
              · have hq2 : m < len2 → ¬ m < 40 := fun h1 h2 => hlt ⟨h1, h2⟩
                clear hlt
                obtain ⟨w10, hw10⟩ : ∃ w10, w10 = wr := ⟨_, rfl⟩
                rw [← hw10] at HN ⊢
                clear hw10
                by_cases q3 : m < len2
                all_goals
                  first
                    | (have q5 : ¬ m < 40 := hq2 q3
                       clear hq2
                       go_wp2_with fail)
                    | (clear hq2
                       go_wp2_with fail)
                  refine (round_r r gp gk R' _ HN.out.1).mono ?_
                  rintro e w11 ⟨rfl, h11, k11⟩
                  have HAl : Hid (Alike R R'.round) := HN.out.2.1.trans (round_alike R')
                  have H11 : Hid (RingAt w11 r gp gk R'.round ∧ Below w.heap.size w w11 ∧ InIn w11 la L.length L ∧ (∀ i, i < L.length → ∃ g, pa = some ⟨g, 0, none⟩ ∧ w6.heap.size ≤ g ∧ w11.cell? ⟨g, i, none⟩ = some (.int .u64 ((L.map R.idOf).getD i 0)))) :=
                    ⟨h11, HN.out.2.2.1.trans (k11.below HG.out.1 HG.out.2 HN.out.2.2.1.size), RingAt.ints HN.out.1 k11 HN.out.2.2.2.1, fun i hi => by
                      obtain ⟨g, g1, g2, g3⟩ := HN.out.2.2.2.2 i hi
                      exact ⟨g, g1, g2, k11.cell g3 (by have := HGK.out; show g ≠ gp; omega) (by have := HGK.out; show g ≠ gk; omega)⟩⟩
                  clear h11 k11
                  go_wp2_with fail
                  refine (live_r r gp gk R'.round _ H11.out.1).mono ?_
                  rintro e w12 ⟨na, nc, rfl, hN, _, b12⟩
                  rw [HAl.out.live, ← HE.out] at hN ⊢
                  have H12 : Hid (RingAt w12 r gp gk R'.round ∧ Below w.heap.size w w12 ∧ InIn w12 la L.length L ∧ InIn w12 na L.length L ∧ (∀ i, i < L.length → ∃ g, pa = some ⟨g, 0, none⟩ ∧ w6.heap.size ≤ g ∧ w12.cell? ⟨g, i, none⟩ = some (.int .u64 ((L.map R.idOf).getD i 0)))) :=
                    ⟨H11.out.1.below b12, H11.out.2.1.trans (b12.mono H11.out.2.1.size), H11.out.2.2.1.below (Nat.le_refl _) b12, hN, fun i hi => by
                      obtain ⟨g, g1, g2, g3⟩ := H11.out.2.2.2 i hi
                      exact ⟨g, g1, g2, cell_grown g3 b12⟩⟩
                  clear hN b12 H11
                  have enn : ((L.length : Int) != (L.length : Int)) = false := by simp
                  go_wp2
                  go_loopg [119] L.length (fun kx s wr => ∃ j : Nat, s = .int .i64 j ∧ j ≤ L.length ∧ kx = L.length - j ∧ Hid (Below w12.heap.size w12 wr))
                  case atStart => exact ⟨0, rfl, Nat.zero_le _, rfl, (Below.refl _ _ : Below w12.heap.size w12 w12)⟩
                  case round =>
                    obtain ⟨j, rfl, hj, rfl, HB⟩ := hrel
                    by_cases hjl : j < L.length
                    · obtain ⟨d1, o1, rfl, hd1, _, hc1⟩ := (H12.out.2.2.1.below (Nat.le_refl _) HB.out).one (v := Value.int .i64) (fun _ => rfl) (i := j) hjl
                      obtain ⟨d2, o2, rfl, hd2, _, hc2⟩ := (H12.out.2.2.2.1.below (Nat.le_refl _) HB.out).one (v := Value.int .i64) (fun _ => rfl) (i := j) hjl
                      obtain ⟨g, rfl, _, hc3⟩ := H12.out.2.2.2.2 j hjl
                      have hc3 := cell_grown hc3 HB.out
                      have hg3 := cell_block hc3
                      have HID : Hid ((L.map R.idOf).getD j 0 = R'.round.idOf (L.getD j 0)) := by
                        show (L.map R.idOf).getD j 0 = _
                        rw [HAl.out.idOf]
                        simp [List.getD, hjl]
                      rw [HID.out] at hc3
                      generalize L.getD j 0 = x at hc1 hc2 hc3
                      have e1 : (x != x) = false := by simp
                      clear HID
                      have e2 : (R'.round.idOf x != R'.round.idOf x) = false := by simp
                      go_wp2_with (go_quiet ((go_at_call 17; exact Calls.quiet_of_same (id_r _ _ _ _ _ _ ((H12.out.1.below HB.out).below ⟨rfl, rfl, rfl, Nat.le_refl _, fun _ _ => rfl⟩)))))
                      go_roundg (L.length - (j + 1))
                      case measure => omega
                      case rel => exact ⟨j + 1, by go_num, by omega, rfl, below_drew HB.out _⟩
                    · go_wp2_with (go_at_call 8; refine (awake10_any _).mono ?_; rintro e w' ⟨rfl, hb⟩)
                      go_ret
                      have bb := H12.out.2.1.trans (HB.out.mono H12.out.2.1.size)
                      exact ⟨rfl, bb.trans (hb.mono bb.size)⟩

/-! ### The row's step -/
set_option maxRecDepth 100000 in
theorem lifted (os : Os) (started : os.Started) (H : Type) (enc : TypeId × Value → H) :
    ReturnsInHanded {} Try.checked os 5 .any (Rows.chordSameSpec.pre6 enc Try.prog Try.f5 Rows.chordSameRow.domain false) (Rows.chordSameSpec.post enc Try.prog Try.f5 false true false false) := by
  refine returnsInHanded_of_change (C := Try.checked) own started (by kernel_rfl) Try.func5
    (ChangeSpec.witness6 (enc := enc) (C := Try.checked) false ⟨#[], #[.slice none 0 0, .slice none 0 0, .slice none 0 0], []⟩ 8 (by kernel_rfl) (by kernel_rfl) (by kernel_rfl) (by kernel_rfl)) ?_
  intro W base args ds gs before hval0 hW hcnd _
  have hval : ∀ (j : Nat) t v, Try.f5.params[j]? = some t → args[j]? = some v → Value.okWide Try.prog W .any base t v := hval0
  have hW' := hW
  obtain ⟨p, q, hA0, hV, rfl, hfz, hnd⟩ := hW
  have hA : DataW.TrodAll enc Try.prog W 0 (fun _ => true) true Try.f5.params.toList args.toList ds p := hA0
  rw [Try.params5] at hA hval
  obtain ⟨v0, vs0, d0, ds0, p0, q0, hargs, rfl, rfl, h0, r0⟩ := trodAll_cons hA
  obtain ⟨v1, vs1, d1, ds1, p1, q1, rfl, rfl, rfl, h1, r1⟩ := trodAll_cons r0
  obtain ⟨v2, vs2, d2, ds2, p2, q2, rfl, rfl, rfl, h2, r2⟩ := trodAll_cons r1
  obtain ⟨rfl, rfl, rfl⟩ := trodAll_nil r2
  obtain rfl : args = #[v0, v1, v2] := by cases args; simp_all
  obtain ⟨rfl, rfl⟩ := trodVars_none hV
  obtain ⟨a0, len0, cap0, rfl⟩ := okWide_slice Try.underlying22 (hval 0 22 v0 rfl rfl)
  have k0 := h0
  have lt0 : ∀ x ∈ p0, x.block < W.heap.size := by obtain ⟨m, hm⟩ := k0; exact DataW.trod_lt m _ _ _ hm
  obtain ⟨t0, w0⟩ : ∃ ts, InRow 1 encU Go.Proofs.Ytfobnkogfgcdaaa.u64 0 W a0 len0 ts := by
    obtain ⟨fuel, hf⟩ := h0
    exact inrow_of 1 encU Go.Proofs.Ytfobnkogfgcdaaa.u64 0 22 32 Try.underlying22 cellsU1 (by omega) lenU (fun n cs x => uid_of n cs x) hf
  obtain ⟨a1, len1, cap1, rfl⟩ := okWide_slice Try.underlying23 (hval 1 23 v1 rfl rfl)
  have k1 := h1
  have lt1 : ∀ x ∈ p1, x.block < W.heap.size := by obtain ⟨m, hm⟩ := k1; exact DataW.trod_lt m _ _ _ hm
  obtain ⟨t1, w1⟩ : ∃ ts, InRow 4 Ac10.cells Ac10.ok ac100 W a1 len1 ts := by
    obtain ⟨fuel, hf⟩ := h1
    exact inrow_of 4 Ac10.cells Ac10.ok ac100 23 34 Try.underlying23 cellsAc10 (by omega) lenAc10 (fun n cs x => ac10_of n cs x) hf
  obtain ⟨a2, len2, cap2, rfl⟩ := okWide_slice Try.underlying30 (hval 2 30 v2 rfl rfl)
  have k2 := h2
  have lt2 : ∀ x ∈ p2, x.block < W.heap.size := by obtain ⟨m, hm⟩ := k2; exact DataW.trod_lt m _ _ _ hm
  obtain ⟨t2, w2⟩ : ∃ ts, InRow 1 encI i64 0 W a2 len2 ts := by
    obtain ⟨fuel, hf⟩ := h2
    exact inrow_of 1 encI i64 0 30 3 Try.underlying30 cellsI1 (by omega) lenI (fun n cs x => int_of n cs x) hf
  clear hA0 hval0
  refine (walk a0 len0 cap0 t0 a1 len1 cap1 t1 a2 len2 cap2 t2 W w0 w1 w2).mono fun e W' ⟨he, bel⟩ => ?_
  subst he
  exact ⟨_, rfl, _, _, _, [], _, [], hW', trodAll_mk1 (shut_bool Try.underlying4 _), (trodAll_cons_mk (Below.trod laidOut (by kernel_rfl) (of_decide_eq_true (by kernel_rfl)) k0 bel lt0) (trodAll_cons_mk (Below.trod laidOut (by kernel_rfl) (of_decide_eq_true (by kernel_rfl)) k1 bel lt1) (trodAll_cons_mk (Below.trod laidOut (by kernel_rfl) (of_decide_eq_true (by kernel_rfl)) k2 bel lt2) trodAll_mk0))), rfl, bel.frame _, fun h => by cases h⟩

theorem over : Rows.chordSameRow.holds Try.pinned (OpenSpec.ofChange Rows.chordSameSpec) :=
  OpenClaim.holds_of_wide 5 Try.f5 rfl rfl rfl rfl rfl rfl rfl ⟨rfl, rfl, rfl, rfl, rfl⟩ rfl rfl rfl rfl rfl (by kernel_rfl) Try.func5 (by kernel_rfl)
    (of_decide_eq_true (by kernel_rfl)) (by unfold Func.isWrapper; first | (rw [if_pos (by decide +kernel)]; kernel_rfl) | (rw [if_neg (by decide +kernel)]; exact ⟨rfl, rfl⟩))
    (fun os started H enc _ => lifted os started H enc)

end Go.Proofs.Ytfobnkogfgcdaaa.chordSame

namespace Go.Proofs.Ytfobnkogfgcdaaa
/-- For every list of places, every list of calls and every list of addresses: whoever looks, nobody comes or goes by it; each one's place stays. -/
theorem chordSame_holds : Rows.ChordSameSaid := chordSame.over
#print axioms chordSame_holds
end Go.Proofs.Ytfobnkogfgcdaaa
