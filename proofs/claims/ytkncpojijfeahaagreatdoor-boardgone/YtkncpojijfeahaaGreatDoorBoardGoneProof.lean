/- Proved: for every schema, every list of calls, every event and every node, BoardGone answers true (when a node is gone nobody of it is due any more, and the others are as they were; behind any 40 calls), the library's variables being laid as the program's text lays them (the card's tie).
  The frame is the guide's own shell (proof-skeleton.mjs) at this function; the walk and all ahead of it are mine. -/
import Derived.Test.YtkncpojijfeahaaGreatDoorRows
import Derived.Test.YtkncpojijfeahaaGreatDoorBkAct
import Derived.Test.YtkncpojijfeahaaGreatDoorBkGone
import Derived.Test.YtkncpojijfeahaaGreatDoorBkAwake18
import Derived.Test.YtkncpojijfeahaaGreatDoorJoinBkBase
import Derived.Test.YtkncpojijfeahaaGreatDoorFilDoor5
import Derived.Deep.CutBlock
import Derived.Deep.DeepCutAuto
import Derived.Deep.LoopGhost
import Derived.Deep.RegionWith
import Derived.Deep.RegionHeld3
import Derived.WalkKit
import Derived.WalkLawsBesides
import Derived.ProofKit
import Derived.OpenShut
import Derived.ChangeSame
import Derived.ChangeVars
import Derived.JoinedOf
import Derived.RowKit
import Derived.RowKitTokens
import Derived.LaidLaws
import Derived.LaidHandle
import Derived.Stop.Joined
import Derived.SevenTiedAt
import Derived.Test.YtkncpojijfeahaaGreatDoorTie
import Derived.Test.YtkncpojijfeahaaGreatDoorCards
import Derived.ShutString
import Derived.ChangeOld
import Derived.Below
namespace Go.Proofs.YtkncpojijfeahaaGreatDoor.boardGone
open Go.ChangeShapes Go.WideShapes Go.ChangeAt Go.RowKit
open Go.ChangeMaps (open_string shut_string)
set_option linter.unusedVariables false

theorem own : ownKnob Tryz.prog.godebug = none := by kernel_rfl
theorem laidOut : laidOutB Tryz.prog = true := by kernel_rfl


theorem sz_cutA' (t : List At) : ∀ i, i < ((t.take 6).map cutA).length → (((t.take 6).map cutA).getD i at0).name.size ≤ maxLen := fun i hi => by
  have hi' : i < 6 ∧ i < t.length := by simp at hi; omega
  have e : ((t.take 6).map cutA).getD i at0 = cutA t[i] := by simp [hi'.1, hi'.2]
  rw [e]
  have := cut_size t[i].name 20
  show (cut t[i].name 20).size ≤ maxLen
  unfold maxLen; omega
theorem sz_cutV' (t : List Vl) : ∀ i, i < ((t.take 6).map cutV).length → (((t.take 6).map cutV).getD i vl0).str.size ≤ maxLen := fun i hi => by
  have hi' : i < 6 ∧ i < t.length := by simp at hi; omega
  have e : ((t.take 6).map cutV).getD i vl0 = cutV t[i] := by simp [hi'.1, hi'.2]
  rw [e]
  have := cut_size t[i].str 50
  show (cut t[i].str 50).size ≤ maxLen
  unfold maxLen; omega
/-- What a call of Subscribe leaves: a board with the subscription or without it. -/
def SubR (er : Value) (w' : World) (p ge gs gg : Nat) (S : List At) (E : List Bev) (U : List Bsb) (G : List Bgf) (k : Int × Int) : Prop :=
  (∃ x : Bsb, x.key = k ∧ (∀ y ∈ U, y.key ≠ k) ∧ er = .nilIface ∧ BdAt w' p ge gs gg S E (U ++ [x]) G) ∨
  (BdAt w' p ge gs gg S E U G ∧ (((∃ y ∈ U, y.key = k) ∧ er = .iface 52 (.int .i64 5)) ∨ (∃ N, er = .iface 129 (.pointer (some ⟨N, 0, none⟩)) ∧ (FaultIn w' N ∨ ∃ pl, FaultAt w' N pl 2))))
theorem sub_r (p ge gs gg : Nat) (S : List At) (E : List Bev) (U : List Bsb) (G : List Bgf) (nd id : Int) (s : ByteArray) (w : World) (h : BdAt w p ge gs gg S E U G) (hE : Env w) (hs : s.size ≤ 300) :
    Calls Tryz.prog 10 #[.pointer (some ⟨p, 0, none⟩), .agg #[.int .i64 nd, .int .i64 id], .string s] w fun e w' => ∃ er, e = .returned er ∧ SubR er w' p ge gs gg S E U G (nd, id) ∧ Kb w w' ge gs gg := by
  obtain ⟨ps, cd, pl, h1, h2, h3, h4⟩ := two_q3 s hs
  refine (bsub_any p ge gs gg S E U G nd id s ps cd pl w h hE h1 h2 h3).mono ?_
  rintro e w' ⟨hP, k⟩
  rcases hP with ⟨hc, ⟨N, rfl, hF⟩, hb⟩ | ⟨_, _, ⟨N, rfl, hF⟩, hb⟩ | ⟨_, _, hy, rfl, hb⟩ | ⟨_, _, hy, rfl, hb⟩
  · have h4 : cd = 2 := h4.resolve_left hc
    subst h4
    exact ⟨_, rfl, .inr ⟨hb, .inr ⟨N, rfl, .inr ⟨pl, hF⟩⟩⟩, k⟩
  · exact ⟨_, rfl, .inr ⟨hb, .inr ⟨N, rfl, .inl hF⟩⟩, k⟩
  · exact ⟨_, rfl, .inr ⟨hb, .inl ⟨hy, rfl⟩⟩, k⟩
  · exact ⟨_, rfl, .inl ⟨⟨(nd, id), ps.map pdOf⟩, rfl, hy, rfl, hb⟩, k⟩
/-! ### STEP 1: the walk -/
set_option maxRecDepth 100000 in
set_option maxHeartbeats 2000000 in
theorem walk (a0 : Option Addr) (len0 cap0 : Nat) (t0 : List At) (a1 : Option Addr) (len1 cap1 : Nat) (t1 : List Ac18) (a2 : Option Addr) (len2 cap2 : Nat) (t2 : List Vl) (s2 : ByteArray) (a3 : Int) (w : World) (hE : Env w) (w0 : InRow 4 At.cells At.ok at0 w a0 len0 t0) (w1 : InRow 8 Ac18.cells Ac18.ok ac180 w a1 len1 t1) (w2 : InRow 2 Vl.cells Vl.ok vl0 w a2 len2 t2) (z2 : s2.size ≤ maxLen) (w3 : (Lit.int .i64 a3).wf = true) :
    Calls Tryz.prog 4 #[.slice a0 len0 cap0, .slice a1 len1 cap1, .agg #[.slice a2 len2 cap2, .string s2], .int .i64 a3] w fun e w' => e = .returned (.bool true) ∧ Below w.heap.size w w' := by
  have HE : Hid (Env w) := hE
  obtain ⟨W1, hW1⟩ : ∃ W1, W1 = w.alloc (.cells #[.slice a2 len2 cap2, .string s2] 27) := ⟨_, rfl⟩
  have b1 : Below w.heap.size w W1 := by rw [hW1]; exact b_one _ _
  have x0 : W1.cell? ⟨w.heap.size, 0, none⟩ = some (.slice a2 len2 cap2) := by rw [hW1]; exact cell_at (j := 0) rfl (by simp)
  have x1 : W1.cell? ⟨w.heap.size, 1, none⟩ = some (.string s2) := by rw [hW1]; exact cell_at (j := 1) rfl (by simp)
  have H1 : Hid (InRow 4 At.cells At.ok at0 W1 a0 len0 t0 ∧ InRow 2 Vl.cells Vl.ok vl0 W1 a2 len2 t2 ∧ s2.size ≤ maxLen ∧ Below w.heap.size w W1) := ⟨w0.below (Nat.le_refl _) b1, w2.below (Nat.le_refl _) b1, z2, b1⟩
  have HT : Hid (Ac18In w a1 len1 t1) := w1
  have hm1 := w1.2.1
  clear w0 w1 w2 w3 z2 hE b1
  have xl := cell_block x0
  go_enter Tryz.func4, Tryz.ntmps4
  go_upto_region 1 with fail
  rw [← hW1]
  clear hW1
  generalize hq : w.heap.size = q at x0 x1 xl ⊢
  go_wp2_with fail
  refine (attrs_any _ _ _ t0 _ H1.out.1).mono ?_
  rintro e w2 ⟨v1, v2, rfl, R⟩
  obtain ⟨az, haz⟩ : ∃ az, az = (t0.take 6).map cutA := ⟨_, rfl⟩
  have hsz : ∀ i, i < az.length → (az.getD i at0).name.size ≤ maxLen := by rw [haz]; exact sz_cutA' t0
  have haz6 : az.length ≤ 1000 := by rw [haz]; simp; omega
  rw [← haz] at R
  clear haz
  have hA := AtIn.ofOwn R.r1
  have b2 := R.bel
  obtain ⟨sa, sc, rfl, _⟩ := hA.shape
  have x02 := cell_grown x0 b2
  have x12 := cell_grown x1 b2
  have xl2 := cell_block x02
  have H2 : Hid (AtIn w2 (.slice sa az.length sc) az ∧ InRow 2 Vl.cells Vl.ok vl0 w2 a2 len2 t2 ∧ s2.size ≤ maxLen ∧ Below w.heap.size w w2) := ⟨hA, H1.out.2.1.below (Nat.le_refl _) b2, H1.out.2.2.1, H1.out.2.2.2.trans (b2.mono H1.out.2.2.2.size)⟩
  have HSZ : Hid (az.length ≤ 1000 ∧ ∀ i, i < az.length → (az.getD i at0).name.size ≤ maxLen) := ⟨haz6, hsz⟩
  clear R hA b2 x0 x1 xl H1 hsz haz6
  go_wp2_with fail
  refine (ev_any _ _ _ _ t2 _ H2.out.2.1 H2.out.2.2.1).mono ?_
  rintro e w3 ⟨v3, v4, rfl, r1, _, _, b3⟩
  obtain ⟨vs, hvs⟩ : ∃ vs, vs = (t2.take 6).map cutV := ⟨_, rfl⟩
  have hvz : ∀ i, i < vs.length → (vs.getD i vl0).str.size ≤ maxLen := by rw [hvs]; exact sz_cutV' t2
  have hv6 : vs.length ≤ 1000 := by rw [hvs]; simp; omega
  rw [← hvs] at r1
  obtain ⟨pay, hpay⟩ : ∃ pay, pay = cut s2 210 := ⟨_, rfl⟩
  have hpz : pay.size ≤ maxLen := by have := cut_size s2 210; rw [hpay]; unfold maxLen; omega
  rw [← hpay]
  clear hvs hpay
  obtain ⟨ua, uc, rfl, _⟩ := (VlIn.ofOwn r1).shape
  obtain ⟨W4, hW4⟩ : ∃ W4, W4 = w3.alloc (.cells #[.slice ua vs.length uc, .string pay] 27) := ⟨_, rfl⟩
  have b4 : Below w3.heap.size w3 W4 := by rw [hW4]; exact b_one _ _
  have f0 : W4.cell? ⟨w3.heap.size, 0, none⟩ = some (.slice ua vs.length uc) := by rw [hW4]; exact cell_at (j := 0) rfl (by simp)
  have f1 : W4.cell? ⟨w3.heap.size, 1, none⟩ = some (.string pay) := by rw [hW4]; exact cell_at (j := 1) rfl (by simp)
  have b34 := b3.trans (b4.mono b3.size)
  have H4 : Hid (AtIn W4 (.slice sa az.length sc) az ∧ VlIn W4 (.slice ua vs.length uc) vs ∧ Below w.heap.size w W4) := ⟨H2.out.1.below b34, (VlIn.ofOwn r1).below b4, H2.out.2.2.2.trans (b34.mono H2.out.2.2.2.size)⟩
  have HVZ : Hid (vs.length ≤ 1000 ∧ pay.size ≤ maxLen ∧ ∀ i, i < vs.length → (vs.getD i vl0).str.size ≤ maxLen) := ⟨hv6, hpz, hvz⟩
  clear H2 b3 b4 b34 r1 x02 x12 xl2 hvz hv6 hpz
  go_upto_region 3 with fail
  rw [← hW4]
  clear hW4 hq
  generalize hq4 : w3.heap.size = q4 at f0 f1 ⊢
  clear hq4
  have fl := cell_block f0
  go_wp2_with fail
  refine (bnew_any _ az _ H4.out.1 HSZ.out.1 HSZ.out.2).mono ?_
  rintro e w5 ⟨hN, b5⟩
  have H5B : Hid (Below w.heap.size w w5) := H4.out.2.2.trans (b5.mono H4.out.2.2.size)
  rcases hN with ⟨_, p, ge, gs, gg, rfl, hb, _, l1, l2, l3⟩ | ⟨_, N, rfl, _⟩
  rotate_left
  · clear b5 H4 f0 f1 fl
    go_wp2_with fail
    refine (awake18_any _ (HE.out.below H5B.out HE.out.lt)).mono ?_
    rintro e w6 ⟨rfl, b6⟩
    have H6 : Hid (Below w.heap.size w w6) := H5B.out.trans (b6.mono H5B.out.size)
    clear b6
    go_wp2
    go_ret
    exact ⟨rfl, H6.out⟩
  obtain ⟨i0, hif, hz0, hz1, hz2⟩ := info_parts Tryz.infoWho
  have wl := H4.out.2.2.size
  have f05 := cell_grown f0 b5
  have f15 := cell_grown f1 b5
  have H6 : Hid (BdAt w5 p ge gs gg az [] [] [] ∧ (w.heap.size ≤ ge ∧ w.heap.size ≤ gs ∧ w.heap.size ≤ gg) ∧ VlIn w5 (.slice ua vs.length uc) vs ∧ Below w.heap.size w w5) := ⟨hb, ⟨by omega, by omega, by omega⟩, H4.out.2.1.below b5, H5B.out⟩
  have HF : Hid (w5.cell? ⟨q4, 0, none⟩ = some (.slice ua vs.length uc) ∧ w5.cell? ⟨q4, 1, none⟩ = some (.string pay)) := ⟨f05, f15⟩
  clear hb b5 l1 l2 l3 f0 f1 fl f05 f15 H4 wl H5B
  go_wp2
  go_loopg [15] 40 (fun kx s wr => ∃ i : Nat, s = .int .i64 i ∧ i ≤ 40 ∧ i ≤ len1 ∧ kx = 40 - i ∧ Hid (∃ U, U.length ≤ i ∧ BdAt wr p ge gs gg az [] U [] ∧ Kc w5 wr ∧ Below w.heap.size w wr))
  case atStart => exact ⟨0, rfl, by omega, Nat.zero_le _, rfl, ⟨[], by simp, H6.out.1, Kc.ofBelow (Below.refl _ _), H6.out.2.2.2⟩⟩
  case round =>
    obtain ⟨i, rfl, hi40, hil, rfl, HB⟩ := hrel
    obtain ⟨U, hU1, hU2, hU3, hU4⟩ := HB.out
    have HU : Hid (U.length ≤ i ∧ BdAt wr p ge gs gg az [] U [] ∧ Kc w5 wr ∧ Below w.heap.size w wr) := ⟨hU1, hU2, hU3, hU4⟩
    clear HB hU1 hU2 hU3 hU4
    go_upto_region 7 with fail
    go_cut [57] (fun v wx => ∃ bb : Bool, v = .bool bb ∧ (bb = true ↔ i < len1 ∧ i < 40) ∧ wx = wr)
    case first =>
      by_cases h1 : (i : Int) < (len1 : Int)
      · by_cases h2 : (i : Int) < 40
        · go_wp2
          go_meet
          exact ⟨true, by simp, by simp; omega, rfl⟩
        · go_wp2
          go_meet
          exact ⟨false, by simp, by simp; omega, rfl⟩
      · go_wp2
        go_meet
        exact ⟨false, by simp, by simp; omega, rfl⟩
    rename World => Wq
    obtain ⟨bb, rfl, hbb, hwq⟩ := hcut
    subst Wq
    cases bb with
    | true =>
      obtain ⟨hlt, h40⟩ := hbb.1 rfl
      clear hbb
      obtain ⟨ab, ao, rfl, hab, hok, x0, _, _, x3, x4, x5, _, _⟩ := Ac18In.at (HT.out.below (Nat.le_refl _) HU.out.2.2.2) hlt
      generalize t1.getD i ac180 = t at hok x0 x3 x4 x5
      obtain ⟨kd, pb, sq, nd, sb, tx, eva, evl, evc, evs⟩ := t
      have HOK : Hid (tx.size ≤ maxLen) := hok
      simp only at x0 x3 x4 x5
      clear hok
      by_cases hk2 : kd = 2
      · subst hk2
        have HS7 : Hid (∀ W, Below wr.heap.size wr W → Calls Tryz.prog 10 #[.pointer (some ⟨p, 0, none⟩), .agg #[.int .i64 nd, .int .i64 sb], .string (cut tx 300)] W fun e w' => ∃ er, e = .returned er ∧ SubR er w' p ge gs gg az [] U [] (nd, sb) ∧ Kb wr w' ge gs gg) := fun W hW => by
          have hB := HU.out.2.2.2.trans (hW.mono HU.out.2.2.2.size)
          refine (sub_r p ge gs gg az [] U [] nd sb _ W (HU.out.2.1.below hW) (HE.out.below hB HE.out.lt) (cut_size tx 300)).mono ?_
          rintro e w' ⟨er, he, h1, h2⟩
          exact ⟨er, he, h1, (Kb.ofBelow hW).trans h2⟩
        have HC1 : Hid (∀ W, Calls Tryz.prog 11 #[.string tx, .int .i64 300] W fun e w' => e = .returned (.string (cut tx 300)) ∧ w' = W) := fun W => cut_any tx 300 W HOK.out
        go_upto_region 10 with fail
        go_region_held3 (fun W' => W'.cell? ⟨ab, ao + i * 8 + 3, none⟩ = some (.int .i64 nd) ∧ W'.cell? ⟨ab, ao + i * 8 + 4, none⟩ = some (.int .i64 sb) ∧ W'.cell? ⟨ab, ao + i * 8 + 5, none⟩ = some (.string tx))
          (first
            | go_keep
            | assumption)
          (first
            | (go_at_call 11; refine Calls.mono (HC1.out _) ?_; rintro e w7 ⟨rfl, hw7⟩; subst w7)
            | (go_at_call 10; refine Calls.mono (HS7.out _ (by exact ⟨rfl, rfl, rfl, Nat.le_refl _, fun _ _ => rfl⟩)) ?_; rintro e w7 ⟨er, rfl, h7⟩
               have H7 : Hid (SubR er w7 p ge gs gg az [] U [] (nd, sb) ∧ Kb wr w7 ge gs gg) := h7
               have zc := HU.out.2.1.kc h7.2
               have zm0 := zc.at x3
               have zm1 := zc.at x4
               have zm2 := zc.at x5
               clear h7 zc))
        all_goals
          have HN : Hid (∃ V, V.length ≤ i + 1 ∧ BdAt w7 p ge gs gg az [] V [] ∧ Kc w5 w7 ∧ Below w.heap.size w w7) := by
            have k1 := HU.out.2.2.1.trans (HU.out.2.1.kc H7.out.2)
            have k2 := HU.out.2.2.2.trans (H7.out.2.below H6.out.2.1.1 H6.out.2.1.2.1 H6.out.2.1.2.2 HU.out.2.2.2.size)
            have hul := HU.out.1
            rcases H7.out.1 with ⟨x, _, _, _, hb⟩ | ⟨hb, _⟩
            · exact ⟨U ++ [x], by simp; omega, hb, k1, k2⟩
            · exact ⟨U, by omega, hb, k1, k2⟩
          clear H7 HS7 HC1
          go_wp2
          go_roundg (40 - (i + 1))
          case measure => omega
          case rel => exact ⟨i + 1, by go_num, by omega, by omega, rfl, HN⟩
      · have hk2' : (kd == 2) = false := by simpa using hk2
        have HN : Hid (∃ V, V.length ≤ i + 1 ∧ BdAt wr p ge gs gg az [] V [] ∧ Kc w5 wr ∧ Below w.heap.size w wr) := ⟨U, by have := HU.out.1; omega, HU.out.2⟩
        clear x3 x4 x5
        go_wp2
        go_roundg (40 - (i + 1))
        case measure => omega
        case rel => exact ⟨i + 1, by go_num, by omega, by omega, rfl, HN⟩
    | false =>
      clear hbb
      have hUl : U.length ≤ 40 := by have := HU.out.1; omega
      obtain ⟨WL, hWL⟩ : ∃ W, W = wr := ⟨_, rfl⟩
      rw [← hWL] at HU
      have H8 : Hid (BdAt WL p ge gs gg az [] U [] ∧ Below w.heap.size w WL ∧ VlIn WL (.slice ua vs.length uc) vs) := ⟨HU.out.2.1, HU.out.2.2.2, H6.out.2.2.1.kc HU.out.2.2.1⟩
      have f0 := HU.out.2.2.1.at HF.out.1
      have f1 := HU.out.2.2.1.at HF.out.2
      have fl := cell_block f0
      have HLO : Hid (w.heap.size ≤ ge ∧ w.heap.size ≤ gs ∧ w.heap.size ≤ gg) := H6.out.2.1
      clear HU HF H6 hi40 hil hm1 HT
      go_upto_region 11 with fail
      rw [← hWL]
      clear hWL
      go_wp2_with fail
      refine (bpub_any p ge gs gg az [] U [] 5 5 _ vs pay _ H8.out.1 H8.out.2.2 HVZ.out.1 HVZ.out.2.1 HVZ.out.2.2).mono ?_
      rintro e w9 ⟨hP, k9⟩
      have B9 : Hid (Below w.heap.size w w9) := H8.out.2.1.trans (k9.below HLO.out.1 HLO.out.2.1 HLO.out.2.2 H8.out.2.1.size)
      rcases hP with ⟨_, N, rfl, _⟩ | ⟨_, ⟨y, hy, _⟩, _⟩ | ⟨_, _, rfl, hb⟩
      · clear k9 H8 f0 f1 fl
        go_wp2_with fail
        refine (awake18_any _ (HE.out.below B9.out HE.out.lt)).mono ?_
        rintro e w10 ⟨rfl, b10⟩
        have B10 : Hid (Below w.heap.size w w10) := B9.out.trans (b10.mono B9.out.size)
        clear b10
        go_wp2
        go_ret
        exact ⟨rfl, B10.out⟩
      · simp at hy
      obtain ⟨E1, hE1⟩ : ∃ E1 : Bev, E1 = ⟨(5, 5), vs, pay⟩ := ⟨_, rfl⟩
      simp only [List.nil_append] at hb
      rw [← hE1] at hb
      have HE1 : Hid (E1.key = (5, 5)) := (by rw [hE1] : E1.key = (5, 5))
      have H9 : Hid (BdAt w9 p ge gs gg az [E1] U []) := hb
      clear k9 H8 f0 f1 fl hb hE1
      go_wp2_with fail
      refine (bdue_any p ge gs gg az [E1] U [] 5 5 _ H9.out (by omega)).mono ?_
      rintro e w10 ⟨hD, b10⟩
      rcases hD with ⟨hn, _⟩ | ⟨y, hy, _, v, L, rfl, hL, hW⟩
      · exact absurd HE1.out (hn E1 (by simp))
      obtain rfl : y = E1 := by simpa using hy
      obtain ⟨ta, tc, rfl, _⟩ := hW.shape
      have H10 : Hid (BdAt w10 p ge gs gg az [y] U [] ∧ Below w.heap.size w w10 ∧ WhIn w10 (.slice ta L.length tc) L ∧ DueL U (DueK az [] (5, 5) y) L) := ⟨H9.out.below b10, B9.out.trans (b10.mono B9.out.size), hW, hL⟩
      clear b10 hW hL hy H9 B9
      go_wp2_with fail
      refine (bgone_any p ge gs gg az [y] U [] a3 _ H10.out.1 (by omega)).mono ?_
      rintro e w11 ⟨rfl, hb11, k11⟩
      have K11 := H10.out.1.kc k11
      have H11 : Hid (BdAt w11 p ge gs gg az [y] (U.filter (fun u => decide (u.key.1 ≠ a3))) [] ∧ Below w.heap.size w w11 ∧ WhIn w11 (.slice ta L.length tc) L) := ⟨hb11, H10.out.2.1.trans (k11.below HLO.out.1 HLO.out.2.1 HLO.out.2.2 H10.out.2.1.size), H10.out.2.2.1.kc K11⟩
      clear K11 k11 hb11
      have hUf : (U.filter (fun u => decide (u.key.1 ≠ a3))).length ≤ 1000 := by have := List.length_filter_le (fun u : Bsb => decide (u.key.1 ≠ a3)) U; omega
      go_wp2_with fail
      refine (bdue_any p ge gs gg az [y] _ [] 5 5 _ H11.out.1 hUf).mono ?_
      rintro e w12 ⟨hD, b12⟩
      rcases hD with ⟨hn, _⟩ | ⟨y2, hy2, _, v, M, rfl, hL2, hW2⟩
      · exact absurd HE1.out (hn y (by simp))
      obtain rfl : y2 = y := by simpa using hy2
      obtain ⟨tb, td, rfl, _⟩ := hW2.shape
      have HM : Hid (M = L.filter (fun k => decide (k.1 ≠ a3))) := H10.out.2.2.2.gone hL2
      have hLl : L.length ≤ 1000 := by
        have h1 := nodup_sub2 L (U.map Bsb.key) (H10.out.2.2.2.1.imp (fun {a b} h e => by subst e; exact ltP_irrefl _ h)) (fun k hk => by
          obtain ⟨u, hu, e, _⟩ := (H10.out.2.2.2.2 k).1 hk
          exact List.mem_map.2 ⟨u, hu, e⟩)
        rw [List.length_map] at h1
        omega
      have H12 : Hid (Below w.heap.size w w12 ∧ WhIn w12 (.slice ta L.length tc) L ∧ WhIn w12 (.slice tb M.length td) M) := ⟨H11.out.2.1.trans (b12.mono H11.out.2.1.size), H11.out.2.2.kc (Kc.ofBelow b12), hW2⟩
      clear b12 hW2 hL2 hy2 H11 H10 hUf HLO hUl HE1
      obtain ⟨nL, hnL⟩ : ∃ k, k = L.length := ⟨_, rfl⟩
      rw [← hnL] at hLl H12 ⊢
      have HNL : Hid (nL = L.length) := hnL
      clear hnL
      obtain ⟨W13, hW13⟩ : ∃ W, W = w12.alloc (.cells #[] 44) := ⟨_, rfl⟩
      obtain ⟨qx, hqx⟩ : ∃ q, q = w12.heap.size := ⟨_, rfl⟩
      have H13 : Hid (W13.ownsRow w12.heap.size 44 2 (.slice (some ⟨qx, 0, none⟩) 0 0) 0 [] ∧ Below w12.heap.size w12 W13) := by
        rw [hW13, hqx]
        exact ⟨⟨rfl, .inr ⟨w12.heap.size, 0, #[], rfl, Nat.le_refl _, heap_alloc_new w12 _, Nat.le_refl _, by unfold maxLen; omega, rfl, rfl⟩⟩, b_one _ _⟩
      go_upto_region 19 with fail
      rw [← hW13]
      try rw [← hqx]
      clear hW13 hqx
      go_wp2
      go_loopg [20, 112] nL (fun kx v s wr => ∃ (i : Nat) (xa : Option Addr) (xn xc : Nat), s = .int .i64 i ∧ v = .slice xa xn xc ∧ i ≤ nL ∧ kx = nL - i ∧ xn ≤ i ∧ Hid (∃ K, K.length = xn ∧ wr.ownsRow w12.heap.size 44 2 (.slice xa xn xc) xn (K.flatMap encW) ∧ Below w12.heap.size w12 wr ∧ K = (L.take i).filter (fun k => decide (k.1 ≠ a3))))
      case atStart => exact ⟨0, _, 0, 0, rfl, rfl, Nat.zero_le _, rfl, Nat.le_refl _, ⟨[], rfl, H13.out.1, H13.out.2, by simp⟩⟩
      case round =>
        obtain ⟨i, xa, xn, xc, rfl, rfl, hi, rfl, hxi, HB⟩ := hrel
        obtain ⟨K, hK0, hK1, hK2, hK3⟩ := HB.out
        have HK : Hid (K.length = xn ∧ wr.ownsRow w12.heap.size 44 2 (.slice xa xn xc) xn (K.flatMap encW) ∧ Below w12.heap.size w12 wr ∧ K = (L.take i).filter (fun k => decide (k.1 ≠ a3))) := ⟨hK0, hK1, hK2, hK3⟩
        clear HB hK0 hK1 hK2 hK3
        by_cases hlt : i < nL
        · have hltI : (i : Int) < (nL : Int) := by omega
          have hwh := H12.out.2.1.kc (Kc.ofBelow HK.out.2.2.1)
          obtain ⟨a', c', hv', _, hh⟩ := hwh.shape
          obtain ⟨g, hga, hgl, hgc⟩ := hh (by have := HNL.out; omega)
          simp at hv'
          obtain ⟨rfl, hz9, rfl⟩ := hv'
          clear hz9
          subst hga
          obtain ⟨y0, y1⟩ := hgc i (by have := HNL.out; omega)
          have hsn : L.take (i + 1) = L.take i ++ [L.getD i (0, 0)] := by
            have hiL : i < L.length := by have := HNL.out; omega
            rw [List.take_succ_eq_append_getElem hiL, List.getD_eq_getElem?_getD, List.getElem?_eq_getElem hiL]; rfl
          obtain ⟨kk, hkk⟩ : ∃ k, k = L.getD i (0, 0) := ⟨_, rfl⟩
          rw [← hkk] at y0 y1 hsn
          have HSN : Hid (L.take (i + 1) = L.take i ++ [kk]) := hsn
          obtain ⟨k1, k2⟩ := kk
          simp only at y0 y1
          clear hwh hh hgc hsn hkk
          obtain ⟨W6, hW6⟩ : ∃ W6, W6 = wr.alloc (.cells #[.int .i64 k1, .int .i64 k2] 44) := ⟨_, rfl⟩
          obtain ⟨qw, hqw⟩ : ∃ q, q = wr.heap.size := ⟨_, rfl⟩
          have b6 : Below wr.heap.size wr W6 := by rw [hW6]; exact b_one _ _
          have r0 : W6.cell? ⟨qw, 0, none⟩ = some (.int .i64 k1) := by rw [hW6, hqw]; exact World.cell?_alloc_new ..
          have r1 : W6.cell? ⟨qw, 1, none⟩ = some (.int .i64 k2) := by rw [hW6, hqw]; simp
          have rl := cell_block r0
          have H6 : Hid (W6.ownsRow w12.heap.size 44 2 (.slice xa xn xc) xn (K.flatMap encW) ∧ Below w12.heap.size w12 W6) := ⟨own_carry HK.out.2.1 b6, HK.out.2.2.1.trans (b6.mono HK.out.2.2.1.size)⟩
          clear b6
          go_upto_region 22 with fail
          rw [← hW6]
          try rw [← hqw]
          clear hW6 hqw y0 y1
          by_cases hne : k1 = a3
          · have e1 : (k1 != a3) = false := by simpa using hne
            have HKf : Hid (K = (L.take (i + 1)).filter (fun k => decide (k.1 ≠ a3))) := by
              show K = _
              rw [HSN.out, List.filter_append, ← HK.out.2.2.2]; simp [hne]
            clear hne
            go_wp2
            go_roundg (nL - (i + 1))
            case measure => omega
            case rel => exact ⟨i + 1, xa, xn, xc, by go_num, rfl, by omega, rfl, by omega, ⟨K, HK.out.1, H6.out.1, H6.out.2, HKf.out⟩⟩
          · have e1 : (k1 != a3) = true := by simpa using hne
            have HKf : Hid (K ++ [(k1, k2)] = (L.take (i + 1)).filter (fun k => decide (k.1 ≠ a3))) := by
              show K ++ [(k1, k2)] = _
              rw [HSN.out, List.filter_append, ← HK.out.2.2.2]; simp [hne]
            clear hne
            have HA : Hid ((W6.alloc (.cells #[.int .i64 k1, .int .i64 k2] 44)).ownsRow w12.heap.size 44 2 (.slice xa xn xc) xn (K.flatMap encW)) := own_carry H6.out.1 (b_one W6 _)
            have HSz : Hid (w12.heap.size ≤ W6.heap.size) := H6.out.2.size
            go_wp2_with (at_builtin; refine wpList_own_append2 _ rfl _ _ 48 48 rfl w12.heap.size 44 i0 _ 16 Tryz.underlying48 hif hz0 hz1 hz2 rfl _ _ _ rfl HA.out _ 1 (encW (k1, k2)) rfl (src_who W6 (k1, k2)) ?c3 ?c4 ?c5 ?_)
            case c3 => unfold maxLen; omega
            case c4 => omega
            case c5 => have := HSz.out; simp; omega
            intro v' w8 ha
            obtain ⟨x8, k8, rfl⟩ := ha.shape
            have H8 : Hid (w8.ownsRow w12.heap.size 44 2 (.slice x8 (xn + 1) k8) (xn + 1) ((K ++ [(k1, k2)]).flatMap encW) ∧ Below w12.heap.size w12 w8) := by
              refine ⟨by rw [flat_snocW]; exact ha.row, ?_⟩
              have b := H6.out.2.alloc H6.out.2.size (.cells #[.int .i64 k1, .int .i64 k2] 44)
              exact b.grown ha.grown b.size (fun k hk => (World.ownsRow.lt HA.out k hk).1)
            clear ha HA HSz
            go_wp2
            go_roundg (nL - (i + 1))
            case measure => omega
            case rel => exact ⟨i + 1, x8, xn + 1, k8, by go_num, rfl, by omega, rfl, by omega, ⟨K ++ [(k1, k2)], by simp [HK.out.1], H8.out.1, H8.out.2, HKf.out⟩⟩
        · obtain rfl : i = nL := by omega
          have hKM : K = M := by
            rw [HM.out, HK.out.2.2.2, List.take_of_length_le (by have := HNL.out; omega)]
          subst hKM
          have hxe : K.length = xn := HK.out.1
          have H14 : Hid (WhIn wr (.slice xa xn xc) K ∧ WhIn wr (.slice tb xn td) K ∧ Below w.heap.size w wr) := by
            have h1 := HK.out.2.1
            rw [← hxe] at h1
            have h2 := H12.out.2.2.kc (Kc.ofBelow HK.out.2.2.1)
            have h3 := WhIn.ofOwn h1
            rw [hxe] at h2 h3
            exact ⟨h3, h2, H12.out.1.trans (HK.out.2.2.1.mono H12.out.1.size)⟩
          have HXE : Hid (K.length = xn) := hxe
          rw [hxe]
          have ell : ((xn : Int) != (xn : Int)) = false := by simp
          clear HK H12 H13 HM hxe hlt
          obtain ⟨WJ, hWJ⟩ : ∃ W, W = wr := ⟨_, rfl⟩
          rw [← hWJ] at H14
          go_upto_region 25 with fail
          rw [← hWJ]
          clear hWJ
          go_wp2
          go_loopg [132] xn (fun kx s wz => ∃ j : Nat, s = .int .i64 j ∧ j ≤ xn ∧ kx = xn - j ∧ Hid (Below WJ.heap.size WJ wz))
          case atStart => exact ⟨0, rfl, Nat.zero_le _, rfl, (Below.refl _ _ : Below WJ.heap.size WJ WJ)⟩
          case round =>
            rename World => wz
            obtain ⟨j, rfl, hj, rfl, HBj⟩ := hrel
            by_cases hjl : j < xn
            · have hjlI : (j : Int) < (xn : Int) := by omega
              obtain ⟨a1', c1', hv1, _, hh1⟩ := (H14.out.1.kc (Kc.ofBelow HBj.out)).shape
              obtain ⟨a2', c2', hv2, _, hh2⟩ := (H14.out.2.1.kc (Kc.ofBelow HBj.out)).shape
              obtain ⟨g1, hg1, hgl1, hc1⟩ := hh1 (by have := HXE.out; omega)
              obtain ⟨g2, hg2, hgl2, hc2⟩ := hh2 (by have := HXE.out; omega)
              simp at hv1 hv2
              obtain ⟨rfl, hz9, rfl⟩ := hv1
              clear hz9
              obtain ⟨rfl, hz9, rfl⟩ := hv2
              clear hz9
              subst hg1
              subst hg2
              obtain ⟨y0, y1⟩ := hc1 j (by have := HXE.out; omega)
              obtain ⟨z0, z1⟩ := hc2 j (by have := HXE.out; omega)
              generalize K.getD j (0, 0) = kk at y0 y1 z0 z1
              have hnq := fun W => neq_who kk W
              obtain ⟨k1, k2⟩ := kk
              simp only at y0 y1 z0 z1 hnq
              clear hh1 hh2 hc1 hc2
              have HWD : Hid (Below WJ.heap.size WJ wz.drew) := HBj.out.trans ((b_drew wz).mono HBj.out.size)
              go_wp2
              go_region
              go_wp2
              go_roundg (xn - (j + 1))
              case measure => omega
              case rel => exact ⟨j + 1, by go_num, by omega, rfl, HWD⟩
            · have HJ : Hid (Below w.heap.size w wz) := H14.out.2.2.trans (HBj.out.mono H14.out.2.2.size)
              go_wp2_with fail
              refine (awake18_any _ (HE.out.below HJ.out HE.out.lt)).mono ?_
              rintro e w20 ⟨rfl, b20⟩
              have B20 : Hid (Below w.heap.size w w20) := HJ.out.trans (b20.mono HJ.out.size)
              clear b20
              go_wp2
              go_ret
              exact ⟨rfl, B20.out⟩

/-! ### The row's step -/
set_option maxRecDepth 100000 in
set_option maxHeartbeats 8000000 in
theorem lifted (os : Os) (started : os.Started) (H : Type) (enc : TypeId × Value → H) :
    ReturnsInHanded {} Tryz.checked os 4 .any (fun w args => (Rows.boardGoneSpec.pre enc Tryz.prog Tryz.f4 [] false w args ∧ laidMetH Tryz.prog Rows.boardGoneRow.laid w) ∧ sizedMet enc Tryz.prog Tryz.f4 (OpenSpec.ofChange Rows.boardGoneSpec) false w args) (Rows.boardGoneSpec.post enc Tryz.prog Tryz.f4 false true false false) := by
  refine returnsInHanded_of_change_and (C := Tryz.checked) (X := fun w _ => laidMetH Tryz.prog Rows.boardGoneRow.laid w) (fun _ _ _ hh h => h.of_heap hh) own started (by kernel_rfl) Tryz.func4
    (ChangeSpec.witness_at (enc := enc) (C := Tryz.checked) (os := os) (X := fun w _ => laidMetH Tryz.prog Rows.boardGoneRow.laid w) false ({ World.holding Tryz.prog os ⟨#[], #[], []⟩ with heap := witHeap5 (World.holding Tryz.prog os ⟨#[], #[], []⟩).heap }) #[.slice none 0 0, .slice none 0 0, .agg #[.slice none 0 0, .string ByteArray.empty], .int .i64 0] 8 rfl (by kernel_rfl) (by kernel_rfl) (by kernel_rfl) (by kernel_rfl) (by kernel_rfl) (laidMetH_of_parts (laidMet_of_run' 8 (by kernel_rfl) (by kernel_rfl)) (by kernel_rfl))) ?_
  intro W base args ds gs before hval0 hW _ _ hL _
  have hval : ∀ (j : Nat) t v, Tryz.f4.params[j]? = some t → args[j]? = some v → Value.okWide Tryz.prog W .any base t v := hval0
  have hW' := hW
  obtain ⟨p, q, hA0, hV, rfl, hfz, hnd⟩ := hW
  have hA : DataW.TrodAll enc Tryz.prog W 0 (fun _ => true) true Tryz.f4.params.toList args.toList ds p := hA0
  rw [Tryz.params4] at hA hval
  obtain ⟨v0, vs0, d0, ds0, p0, q0, hargs, rfl, rfl, h0, r0⟩ := trodAll_cons hA
  obtain ⟨v1, vs1, d1, ds1, p1, q1, rfl, rfl, rfl, h1, r1⟩ := trodAll_cons r0
  obtain ⟨v2, vs2, d2, ds2, p2, q2, rfl, rfl, rfl, h2, r2⟩ := trodAll_cons r1
  obtain ⟨v3, vs3, d3, ds3, p3, q3, rfl, rfl, rfl, h3, r3⟩ := trodAll_cons r2
  obtain ⟨rfl, rfl, rfl⟩ := trodAll_nil r3
  obtain rfl : args = #[v0, v1, v2, v3] := by cases args; simp_all
  obtain ⟨rfl, rfl⟩ := trodVars_none hV
  obtain ⟨a0, len0, cap0, rfl⟩ := okWide_slice Tryz.underlying23 (hval 0 23 v0 rfl rfl)
  have k0 := h0
  have lt0 : ∀ x ∈ p0, x.block < W.heap.size := by obtain ⟨m, hm⟩ := k0; exact DataW.trod_lt m _ _ _ hm
  obtain ⟨t0, w0⟩ : ∃ ts, InRow 4 At.cells At.ok at0 W a0 len0 ts := by
    obtain ⟨fuel, hf⟩ := h0
    exact inrow_of 4 At.cells At.ok at0 23 74 Tryz.underlying23 cellsAt (by omega) At.cells_len (fun n cs x => at_of n cs x) hf
  obtain ⟨a1, len1, cap1, rfl⟩ := okWide_slice Tryz.underlying24 (hval 1 24 v1 rfl rfl)
  have k1 := h1
  have lt1 : ∀ x ∈ p1, x.block < W.heap.size := by obtain ⟨m, hm⟩ := k1; exact DataW.trod_lt m _ _ _ hm
  obtain ⟨t1, w1⟩ : ∃ ts, InRow 8 Ac18.cells Ac18.ok ac180 W a1 len1 ts := by
    obtain ⟨fuel, hf⟩ := h1
    exact inrow_of 8 Ac18.cells Ac18.ok ac180 24 41 Tryz.underlying24 cellsAc18 (by omega) lenAc18 (fun n cs x => ac18_of n cs x) hf
  obtain ⟨cs2, rfl, hcs2⟩ := okWide_struct Tryz.underlying27 (hval 2 27 v2 rfl rfl)
  have k2 := h2
  have lt2 : ∀ x ∈ p2, x.block < W.heap.size := by obtain ⟨m, hm⟩ := k2; exact DataW.trod_lt m _ _ _ hm
  obtain ⟨fuel2, hf2⟩ := h2
  obtain ⟨a2, len2, cap2, t2, s2, rfl, w2, z2⟩ := ev_of hcs2 hf2
  obtain ⟨a3, rfl, rfl, rfl, w3⟩ := open_int Tryz.underlying3 (hval 3 3 v3 rfl rfl) h3
  clear hA0 hval0
  have hE := genv_of_laid5 hL
  refine (walk a0 len0 cap0 t0 a1 len1 cap1 t1 a2 len2 cap2 t2 s2 a3 W hE w0 w1 w2 z2 w3).mono fun e W' ⟨he, bel⟩ => ?_
  subst he
  exact ⟨_, rfl, _, _, _, [], _, [], hW', trodAll_mk1 (shut_bool Tryz.underlying4 _), (trodAll_cons_mk (Below.trod laidOut (by kernel_rfl) (of_decide_eq_true (by kernel_rfl)) k0 bel lt0) (trodAll_cons_mk (Below.trod laidOut (by kernel_rfl) (of_decide_eq_true (by kernel_rfl)) k1 bel lt1) (trodAll_cons_mk (Below.trod laidOut (by kernel_rfl) (of_decide_eq_true (by kernel_rfl)) k2 bel lt2) (trodAll_cons_mk (shut_int Tryz.underlying3 w3) trodAll_mk0)))), rfl, bel.frame _, fun h => by cases h⟩

theorem over : Rows.boardGoneRow.holds Tryz.pinned (OpenSpec.ofChange Rows.boardGoneSpec) :=
  OpenClaim.holds_of_wide 4 Tryz.f4 rfl rfl rfl rfl rfl rfl rfl ⟨rfl, rfl, rfl, rfl, rfl⟩ rfl rfl rfl rfl rfl (by kernel_rfl) Tryz.func4 (by kernel_rfl)
    (of_decide_eq_true (by kernel_rfl)) (by unfold Func.isWrapper; first | (rw [if_pos (by decide +kernel)]; kernel_rfl) | (rw [if_neg (by decide +kernel)]; exact ⟨rfl, rfl⟩))
    (fun os started H enc _ => lifted os started H enc)

theorem card : Rows.BoardGoneCardSaid :=
  Claim7.holds_tied_plain_at .later [] [.data, .data, .data, .sentinel, .sentinel] true (true, "02bdbaa27e9ee3cb02aab0e12b93f5ebb7efa351a57ac180e399f37158e8023a") true
    over (fun _ h => by cases h) (by kernel_rfl) (fun _ h => by cases h) boardGone_row_tie rfl ⟨rfl, rfl⟩ (by kernel_rfl) rfl
    (fun f fn hf hfn => by
      obtain rfl : f = 4 := Option.some.inj ((show Tryz.prog.funcNamed "wigwag/wigwaglaw18.BoardGone" = some 4 by kernel_rfl).symm.trans hf) |>.symm
      obtain rfl : fn = Tryz.f4 := (Option.some.inj (Tryz.func4.symm.trans hfn)).symm
      exact ⟨by kernel_rfl, fun j t ht => by
        rw [Tryz.params4] at ht
        have hall : ∀ t ∈ ([23, 24, 27, 3] : List TypeId), Tryz.prog.wantsStandIn t = false := by
          intro t ht
          simp only [List.mem_cons, List.not_mem_nil, or_false] at ht
          rcases ht with rfl | rfl | rfl | rfl <;> kernel_rfl
        exact hall t (by simpa using List.mem_of_getElem? (l := ([23, 24, 27, 3] : List TypeId)) (i := j) (by simpa using ht))⟩)
    (by kernel_rfl)

end Go.Proofs.YtkncpojijfeahaaGreatDoor.boardGone

namespace Go.Proofs.YtkncpojijfeahaaGreatDoor
/-- Proved: for every schema, every list of calls, every event and every node, BoardGone answers true (when a node is gone nobody of it is due any more, and the others are as they were; behind any 40 calls), the library's variables being laid as the program's text lays them (the card's tie). -/
theorem boardGone_holds : Rows.BoardGoneCardSaid := boardGone.card
#print axioms boardGone_holds
end Go.Proofs.YtkncpojijfeahaaGreatDoor
