/- Proved: for every schema, every list of calls and every event, BoardOnce answers true (what is given to all that are due leaves nobody due, and isn't given again; behind any 40 calls), the library's variables being laid as the program's text lays them (the card's tie).
  The frame is the guide's own shell (proof-skeleton.mjs) at this function; the walk and all ahead of it are mine. -/
import Derived.Test.YtkncpojijfeahaaGreatDoorRows
import Derived.Test.YtkncpojijfeahaaGreatDoorBkAct
import Derived.Test.YtkncpojijfeahaaGreatDoorBkAwake18
import Derived.Test.YtkncpojijfeahaaGreatDoorJoinBkBase
import Derived.Test.YtkncpojijfeahaaGreatDoorFilDoor5
import Derived.Deep.CutBlock
import Derived.Deep.DeepCutAuto
import Derived.Deep.LoopGhost
import Derived.Deep.RegionWith
import Derived.Deep.RegionHeld3
import Derived.WalkKit
import Derived.WalkLawsBesides
import Derived.ProofKit
import Derived.OpenShut
import Derived.ChangeSame
import Derived.ChangeVars
import Derived.JoinedOf
import Derived.RowKit
import Derived.RowKitTokens
import Derived.LaidLaws
import Derived.LaidHandle
import Derived.Stop.Joined
import Derived.SevenTiedAt
import Derived.Test.YtkncpojijfeahaaGreatDoorTie
import Derived.Test.YtkncpojijfeahaaGreatDoorCards
import Derived.ShutString
import Derived.ChangeOld
import Derived.Below
namespace Go.Proofs.YtkncpojijfeahaaGreatDoor.boardOnce
open Go.ChangeShapes Go.WideShapes Go.ChangeAt Go.RowKit
open Go.ChangeMaps (open_string shut_string)
set_option linter.unusedVariables false

theorem own : ownKnob Tryz.prog.godebug = none := by kernel_rfl
theorem laidOut : laidOutB Tryz.prog = true := by kernel_rfl


theorem sz_cutA' (t : List At) : ∀ i, i < ((t.take 6).map cutA).length → (((t.take 6).map cutA).getD i at0).name.size ≤ maxLen := fun i hi => by
  have hi' : i < 6 ∧ i < t.length := by simp at hi; omega
  have e : ((t.take 6).map cutA).getD i at0 = cutA t[i] := by simp [hi'.1, hi'.2]
  rw [e]
  have := cut_size t[i].name 20
  show (cut t[i].name 20).size ≤ maxLen
  unfold maxLen; omega
theorem sz_cutV' (t : List Vl) : ∀ i, i < ((t.take 6).map cutV).length → (((t.take 6).map cutV).getD i vl0).str.size ≤ maxLen := fun i hi => by
  have hi' : i < 6 ∧ i < t.length := by simp at hi; omega
  have e : ((t.take 6).map cutV).getD i vl0 = cutV t[i] := by simp [hi'.1, hi'.2]
  rw [e]
  have := cut_size t[i].str 50
  show (cut t[i].str 50).size ≤ maxLen
  unfold maxLen; omega
/-- What a call of Subscribe leaves: a board with the subscription or without it. -/
def SubR (er : Value) (w' : World) (p ge gs gg : Nat) (S : List At) (E : List Bev) (U : List Bsb) (G : List Bgf) (k : Int × Int) : Prop :=
  (∃ x : Bsb, x.key = k ∧ (∀ y ∈ U, y.key ≠ k) ∧ er = .nilIface ∧ BdAt w' p ge gs gg S E (U ++ [x]) G) ∨
  (BdAt w' p ge gs gg S E U G ∧ (((∃ y ∈ U, y.key = k) ∧ er = .iface 52 (.int .i64 5)) ∨ (∃ N, er = .iface 129 (.pointer (some ⟨N, 0, none⟩)) ∧ (FaultIn w' N ∨ ∃ pl, FaultAt w' N pl 2))))
theorem sub_r (p ge gs gg : Nat) (S : List At) (E : List Bev) (U : List Bsb) (G : List Bgf) (nd id : Int) (s : ByteArray) (w : World) (h : BdAt w p ge gs gg S E U G) (hE : Env w) (hs : s.size ≤ 300) :
    Calls Tryz.prog 10 #[.pointer (some ⟨p, 0, none⟩), .agg #[.int .i64 nd, .int .i64 id], .string s] w fun e w' => ∃ er, e = .returned er ∧ SubR er w' p ge gs gg S E U G (nd, id) ∧ Kb w w' ge gs gg := by
  obtain ⟨ps, cd, pl, h1, h2, h3, h4⟩ := two_q3 s hs
  refine (bsub_any p ge gs gg S E U G nd id s ps cd pl w h hE h1 h2 h3).mono ?_
  rintro e w' ⟨hP, k⟩
  rcases hP with ⟨hc, ⟨N, rfl, hF⟩, hb⟩ | ⟨_, _, ⟨N, rfl, hF⟩, hb⟩ | ⟨_, _, hy, rfl, hb⟩ | ⟨_, _, hy, rfl, hb⟩
  · have h4 : cd = 2 := h4.resolve_left hc
    subst h4
    exact ⟨_, rfl, .inr ⟨hb, .inr ⟨N, rfl, .inr ⟨pl, hF⟩⟩⟩, k⟩
  · exact ⟨_, rfl, .inr ⟨hb, .inr ⟨N, rfl, .inl hF⟩⟩, k⟩
  · exact ⟨_, rfl, .inr ⟨hb, .inl ⟨hy, rfl⟩⟩, k⟩
  · exact ⟨_, rfl, .inl ⟨⟨(nd, id), ps.map pdOf⟩, rfl, hy, rfl, hb⟩, k⟩
theorem bd_keys {w : World} {p ge gs gg : Nat} {S : List At} {E : List Bev} {U : List Bsb} {G : List Bgf} (h : BdAt w p ge gs gg S E U G) : (U.map Bsb.key).Nodup := by
  obtain ⟨m, hm, hr⟩ := h.sb
  rw [← keys_rel (key := Bsb.key) (fun p b q => q.1) hr]
  exact hm.1
/-- What Give must answer of one that is due. -/
theorem give_is {S : List At} {y : Bev} {U : List Bsb} {G : List Bgf} {k : Int × Int} {vs : List Vl} {pay : ByteArray} {c : Int} (hn : (U.map Bsb.key).Nodup) (h1 : y.vs = vs) (h2 : y.pay = pay) (hu : ∃ u ∈ U, u.key = k ∧ MatchOk S u.ps y.vs y.pay.size)
    (h : GiveC S [y] U G (k, y.key) vs pay c) : (c = 5 ∧ (k, y.key) ∈ G) ∨ (c = 0 ∧ (k, y.key) ∉ G) := by
  obtain ⟨u, hu1, hu2, hu3⟩ := hu
  rcases h with ⟨_, hno⟩ | ⟨z, hz, _, h⟩
  · exact absurd rfl (hno y (by simp))
  · obtain rfl : z = y := by simpa using hz
    rcases h with ⟨_, hne⟩ | ⟨_, h⟩
    · exact absurd ⟨h1, h2⟩ hne
    · rcases h with ⟨_, hno⟩ | ⟨x, hx, hk, h⟩
      · exact absurd hu2 (hno u hu1)
      · obtain rfl : x = u := key_one hn hx hu1 (hk.trans hu2.symm)
        rcases h with ⟨_, hnm⟩ | ⟨_, h⟩
        · exact absurd hu3 hnm
        · exact h
/-! ### STEP 1: the walk -/
set_option maxRecDepth 100000 in
set_option maxHeartbeats 2000000 in
theorem walk (a0 : Option Addr) (len0 cap0 : Nat) (t0 : List At) (a1 : Option Addr) (len1 cap1 : Nat) (t1 : List Ac18) (a2 : Option Addr) (len2 cap2 : Nat) (t2 : List Vl) (s2 : ByteArray) (w : World) (hE : Env w) (w0 : InRow 4 At.cells At.ok at0 w a0 len0 t0) (w1 : InRow 8 Ac18.cells Ac18.ok ac180 w a1 len1 t1) (w2 : InRow 2 Vl.cells Vl.ok vl0 w a2 len2 t2) (z2 : s2.size ≤ maxLen) :
    Calls Tryz.prog 3 #[.slice a0 len0 cap0, .slice a1 len1 cap1, .agg #[.slice a2 len2 cap2, .string s2]] w fun e w' => e = .returned (.bool true) ∧ Below w.heap.size w w' := by
  have HE : Hid (Env w) := hE
  obtain ⟨W1, hW1⟩ : ∃ W1, W1 = w.alloc (.cells #[.slice a2 len2 cap2, .string s2] 27) := ⟨_, rfl⟩
  have b1 : Below w.heap.size w W1 := by rw [hW1]; exact b_one _ _
  have x0 : W1.cell? ⟨w.heap.size, 0, none⟩ = some (.slice a2 len2 cap2) := by rw [hW1]; exact cell_at (j := 0) rfl (by simp)
  have x1 : W1.cell? ⟨w.heap.size, 1, none⟩ = some (.string s2) := by rw [hW1]; exact cell_at (j := 1) rfl (by simp)
  have H1 : Hid (InRow 4 At.cells At.ok at0 W1 a0 len0 t0 ∧ InRow 2 Vl.cells Vl.ok vl0 W1 a2 len2 t2 ∧ s2.size ≤ maxLen ∧ Below w.heap.size w W1) := ⟨w0.below (Nat.le_refl _) b1, w2.below (Nat.le_refl _) b1, z2, b1⟩
  have HT : Hid (Ac18In w a1 len1 t1) := w1
  have hm1 := w1.2.1
  clear w0 w1 w2 z2 hE b1
  have xl := cell_block x0
  go_enter Tryz.func3, Tryz.ntmps3
  go_upto_region 1 with fail
  rw [← hW1]
  clear hW1
  generalize hq : w.heap.size = q at x0 x1 xl ⊢
  go_wp2_with fail
  refine (attrs_any _ _ _ t0 _ H1.out.1).mono ?_
  rintro e w2 ⟨v1, v2, rfl, R⟩
  obtain ⟨az, haz⟩ : ∃ az, az = (t0.take 6).map cutA := ⟨_, rfl⟩
  have hsz : ∀ i, i < az.length → (az.getD i at0).name.size ≤ maxLen := by rw [haz]; exact sz_cutA' t0
  have haz6 : az.length ≤ 1000 := by rw [haz]; simp; omega
  rw [← haz] at R
  clear haz
  have hA := AtIn.ofOwn R.r1
  have b2 := R.bel
  obtain ⟨sa, sc, rfl, _⟩ := hA.shape
  have x02 := cell_grown x0 b2
  have x12 := cell_grown x1 b2
  have xl2 := cell_block x02
  have H2 : Hid (AtIn w2 (.slice sa az.length sc) az ∧ InRow 2 Vl.cells Vl.ok vl0 w2 a2 len2 t2 ∧ s2.size ≤ maxLen ∧ Below w.heap.size w w2) := ⟨hA, H1.out.2.1.below (Nat.le_refl _) b2, H1.out.2.2.1, H1.out.2.2.2.trans (b2.mono H1.out.2.2.2.size)⟩
  have HSZ : Hid (az.length ≤ 1000 ∧ ∀ i, i < az.length → (az.getD i at0).name.size ≤ maxLen) := ⟨haz6, hsz⟩
  clear R hA b2 x0 x1 xl H1 hsz haz6
  go_wp2_with fail
  refine (ev_any _ _ _ _ t2 _ H2.out.2.1 H2.out.2.2.1).mono ?_
  rintro e w3 ⟨v3, v4, rfl, r1, _, _, b3⟩
  obtain ⟨vs, hvs⟩ : ∃ vs, vs = (t2.take 6).map cutV := ⟨_, rfl⟩
  have hvz : ∀ i, i < vs.length → (vs.getD i vl0).str.size ≤ maxLen := by rw [hvs]; exact sz_cutV' t2
  have hv6 : vs.length ≤ 1000 := by rw [hvs]; simp; omega
  rw [← hvs] at r1
  obtain ⟨pay, hpay⟩ : ∃ pay, pay = cut s2 210 := ⟨_, rfl⟩
  have hpz : pay.size ≤ maxLen := by have := cut_size s2 210; rw [hpay]; unfold maxLen; omega
  rw [← hpay]
  clear hvs hpay
  obtain ⟨ua, uc, rfl, _⟩ := (VlIn.ofOwn r1).shape
  obtain ⟨W4, hW4⟩ : ∃ W4, W4 = w3.alloc (.cells #[.slice ua vs.length uc, .string pay] 27) := ⟨_, rfl⟩
  have b4 : Below w3.heap.size w3 W4 := by rw [hW4]; exact b_one _ _
  have f0 : W4.cell? ⟨w3.heap.size, 0, none⟩ = some (.slice ua vs.length uc) := by rw [hW4]; exact cell_at (j := 0) rfl (by simp)
  have f1 : W4.cell? ⟨w3.heap.size, 1, none⟩ = some (.string pay) := by rw [hW4]; exact cell_at (j := 1) rfl (by simp)
  have b34 := b3.trans (b4.mono b3.size)
  have H4 : Hid (AtIn W4 (.slice sa az.length sc) az ∧ VlIn W4 (.slice ua vs.length uc) vs ∧ Below w.heap.size w W4) := ⟨H2.out.1.below b34, (VlIn.ofOwn r1).below b4, H2.out.2.2.2.trans (b34.mono H2.out.2.2.2.size)⟩
  have HVZ : Hid (vs.length ≤ 1000 ∧ pay.size ≤ maxLen ∧ ∀ i, i < vs.length → (vs.getD i vl0).str.size ≤ maxLen) := ⟨hv6, hpz, hvz⟩
  clear H2 b3 b4 b34 r1 x02 x12 xl2 hvz hv6 hpz
  go_upto_region 3 with fail
  rw [← hW4]
  clear hW4 hq
  generalize hq4 : w3.heap.size = q4 at f0 f1 ⊢
  clear hq4
  have fl := cell_block f0
  go_wp2_with fail
  refine (bnew_any _ az _ H4.out.1 HSZ.out.1 HSZ.out.2).mono ?_
  rintro e w5 ⟨hN, b5⟩
  have H5B : Hid (Below w.heap.size w w5) := H4.out.2.2.trans (b5.mono H4.out.2.2.size)
  rcases hN with ⟨_, p, ge, gs, gg, rfl, hb, _, l1, l2, l3⟩ | ⟨_, N, rfl, _⟩
  rotate_left
  · clear b5 H4 f0 f1 fl
    go_wp2_with fail
    refine (awake18_any _ (HE.out.below H5B.out HE.out.lt)).mono ?_
    rintro e w6 ⟨rfl, b6⟩
    have H6 : Hid (Below w.heap.size w w6) := H5B.out.trans (b6.mono H5B.out.size)
    clear b6
    go_wp2
    go_ret
    exact ⟨rfl, H6.out⟩
  obtain ⟨i0, hif, hz0, hz1, hz2⟩ := info_parts Tryz.infoWho
  have wl := H4.out.2.2.size
  have f05 := cell_grown f0 b5
  have f15 := cell_grown f1 b5
  have H6 : Hid (BdAt w5 p ge gs gg az [] [] [] ∧ (w.heap.size ≤ ge ∧ w.heap.size ≤ gs ∧ w.heap.size ≤ gg) ∧ VlIn w5 (.slice ua vs.length uc) vs ∧ Below w.heap.size w w5) := ⟨hb, ⟨by omega, by omega, by omega⟩, H4.out.2.1.below b5, H5B.out⟩
  have HF : Hid (w5.cell? ⟨q4, 0, none⟩ = some (.slice ua vs.length uc) ∧ w5.cell? ⟨q4, 1, none⟩ = some (.string pay)) := ⟨f05, f15⟩
  clear hb b5 l1 l2 l3 f0 f1 fl f05 f15 H4 wl H5B
  go_wp2
  go_loopg [13] 40 (fun kx s wr => ∃ i : Nat, s = .int .i64 i ∧ i ≤ 40 ∧ i ≤ len1 ∧ kx = 40 - i ∧ Hid (∃ U, U.length ≤ i ∧ BdAt wr p ge gs gg az [] U [] ∧ Kc w5 wr ∧ Below w.heap.size w wr))
  case atStart => exact ⟨0, rfl, by omega, Nat.zero_le _, rfl, ⟨[], by simp, H6.out.1, Kc.ofBelow (Below.refl _ _), H6.out.2.2.2⟩⟩
  case round =>
    obtain ⟨i, rfl, hi40, hil, rfl, HB⟩ := hrel
    obtain ⟨U, hU1, hU2, hU3, hU4⟩ := HB.out
    have HU : Hid (U.length ≤ i ∧ BdAt wr p ge gs gg az [] U [] ∧ Kc w5 wr ∧ Below w.heap.size w wr) := ⟨hU1, hU2, hU3, hU4⟩
    clear HB hU1 hU2 hU3 hU4
    go_upto_region 7 with fail
    go_cut [58] (fun v wx => ∃ bb : Bool, v = .bool bb ∧ (bb = true ↔ i < len1 ∧ i < 40) ∧ wx = wr)
    case first =>
      by_cases h1 : (i : Int) < (len1 : Int)
      · by_cases h2 : (i : Int) < 40
        · go_wp2
          go_meet
          exact ⟨true, by simp, by simp; omega, rfl⟩
        · go_wp2
          go_meet
          exact ⟨false, by simp, by simp; omega, rfl⟩
      · go_wp2
        go_meet
        exact ⟨false, by simp, by simp; omega, rfl⟩
    rename World => Wq
    obtain ⟨bb, rfl, hbb, hwq⟩ := hcut
    subst Wq
    cases bb with
    | true =>
      obtain ⟨hlt, h40⟩ := hbb.1 rfl
      clear hbb
      obtain ⟨ab, ao, rfl, hab, hok, x0, x1, x2, x3, x4, x5, x6, x7⟩ := Ac18In.at (HT.out.below (Nat.le_refl _) HU.out.2.2.2) hlt
      generalize t1.getD i ac180 = t at hok x0 x1 x2 x3 x4 x5 x6 x7
      obtain ⟨kd, pb, sq, nd, sb, tx, eva, evl, evc, evs⟩ := t
      have HOK : Hid (tx.size ≤ maxLen) := hok
      simp only at x0 x1 x2 x3 x4 x5 x6 x7
      clear hok
      obtain ⟨Wb, hWb⟩ : ∃ Wb, Wb = wr.alloc (.cells #[.int .i64 kd, .int .i64 pb, .int .i64 sq, .int .i64 nd, .int .i64 sb, .string tx, .slice eva evl evc, .string evs] 41) := ⟨_, rfl⟩
      obtain ⟨qb, hqb⟩ : ∃ q, q = wr.heap.size := ⟨_, rfl⟩
      have bb6 : Below wr.heap.size wr Wb := by rw [hWb]; exact b_one _ _
      have y0 : Wb.cell? ⟨qb, 0, none⟩ = some (.int .i64 kd) := by rw [hWb, hqb]; exact World.cell?_alloc_new ..
      have y3 : Wb.cell? ⟨qb, 3, none⟩ = some (.int .i64 nd) := by rw [hWb, hqb]; simp
      have y4 : Wb.cell? ⟨qb, 4, none⟩ = some (.int .i64 sb) := by rw [hWb, hqb]; simp
      have y5 : Wb.cell? ⟨qb, 5, none⟩ = some (.string tx) := by rw [hWb, hqb]; simp
      have yl := cell_block y0
      have HUb : Hid (U.length ≤ i ∧ BdAt Wb p ge gs gg az [] U [] ∧ Kc w5 Wb ∧ Below w.heap.size w Wb) := ⟨HU.out.1, HU.out.2.1.below bb6, HU.out.2.2.1.trans (Kc.ofBelow bb6), HU.out.2.2.2.trans (bb6.mono HU.out.2.2.2.size)⟩
      clear bb6
      go_upto_region 10 with fail
      rw [← hWb]
      try rw [← hqb]
      clear hWb hqb x0 x1 x2 x3 x4 x5 x6 x7 HU
      go_upto_if 67 with fail
      go_cut [13] (fun v wx => v = .int .i64 i ∧ wx.cell? ⟨qb, 0, none⟩ = some (.int .i64 kd) ∧ wx.cell? ⟨qb, 3, none⟩ = some (.int .i64 nd) ∧ wx.cell? ⟨qb, 4, none⟩ = some (.int .i64 sb) ∧ Hid (∃ V, (V.length ≤ i + 1 ∧ (kd ≠ 2 → V.length ≤ i)) ∧ BdAt wx p ge gs gg az [] V [] ∧ Kc w5 wx ∧ Below w.heap.size w wx))
      case first =>
        by_cases hk2 : kd = 2
        · subst hk2
          have HS7 : Hid (∀ W, Below Wb.heap.size Wb W → Calls Tryz.prog 10 #[.pointer (some ⟨p, 0, none⟩), .agg #[.int .i64 nd, .int .i64 sb], .string (cut tx 300)] W fun e w' => ∃ er, e = .returned er ∧ SubR er w' p ge gs gg az [] U [] (nd, sb) ∧ Kb Wb w' ge gs gg) := fun W hW => by
            have hB := HUb.out.2.2.2.trans (hW.mono HUb.out.2.2.2.size)
            refine (sub_r p ge gs gg az [] U [] nd sb _ W (HUb.out.2.1.below hW) (HE.out.below hB HE.out.lt) (cut_size tx 300)).mono ?_
            rintro e w' ⟨er, he, h1, h2⟩
            exact ⟨er, he, h1, (Kb.ofBelow hW).trans h2⟩
          have HC1 : Hid (∀ W, Calls Tryz.prog 11 #[.string tx, .int .i64 300] W fun e w' => e = .returned (.string (cut tx 300)) ∧ w' = W) := fun W => cut_any tx 300 W HOK.out
          go_upto_region 11 with fail
          go_region_held3 (fun W' => W'.cell? ⟨qb, 0, none⟩ = some (.int .i64 2) ∧ W'.cell? ⟨qb, 3, none⟩ = some (.int .i64 nd) ∧ W'.cell? ⟨qb, 4, none⟩ = some (.int .i64 sb) ∧ W'.cell? ⟨qb, 5, none⟩ = some (.string tx))
            (first
              | go_keep
              | assumption)
            (first
              | (go_at_call 11; refine Calls.mono (HC1.out _) ?_; rintro e w7 ⟨rfl, hw7⟩; subst w7)
              | (go_at_call 10; refine Calls.mono (HS7.out _ (by exact ⟨rfl, rfl, rfl, Nat.le_refl _, fun _ _ => rfl⟩)) ?_; rintro e w7 ⟨er, rfl, h7⟩
                 have H7 : Hid (SubR er w7 p ge gs gg az [] U [] (nd, sb) ∧ Kb Wb w7 ge gs gg) := h7
                 have zc := HUb.out.2.1.kc h7.2
                 have zm0 := zc.at y0
                 have zm1 := zc.at y3
                 have zm2 := zc.at y4
                 have zm3 := zc.at y5
                 clear h7 zc))
          all_goals
            go_wp2
            go_meet
            refine ⟨rfl, by assumption, by assumption, by assumption, (?_ : ∃ V, (V.length ≤ i + 1 ∧ ((2 : Int) ≠ 2 → V.length ≤ i)) ∧ BdAt _ p ge gs gg az [] V [] ∧ Kc w5 _ ∧ Below w.heap.size w _)⟩
            have k1 := HUb.out.2.2.1.trans (HUb.out.2.1.kc H7.out.2)
            have k2 := HUb.out.2.2.2.trans (H7.out.2.below H6.out.2.1.1 H6.out.2.1.2.1 H6.out.2.1.2.2 HUb.out.2.2.2.size)
            have hul := HUb.out.1
            rcases H7.out.1 with ⟨x, _, _, _, hb⟩ | ⟨hb, _⟩
            · exact ⟨U ++ [x], ⟨by simp; omega, fun h => absurd rfl h⟩, hb, k1, k2⟩
            · exact ⟨U, ⟨by omega, fun h => absurd rfl h⟩, hb, k1, k2⟩
        · have hk2' : (kd == 2) = false := by simpa using hk2
          have HN : Hid (∃ V, (V.length ≤ i + 1 ∧ (kd ≠ 2 → V.length ≤ i)) ∧ BdAt Wb p ge gs gg az [] V [] ∧ Kc w5 Wb ∧ Below w.heap.size w Wb) := ⟨U, by have := HUb.out.1; exact ⟨by omega, fun _ => this⟩, HUb.out.2⟩
          go_wp2
          go_meet
          exact ⟨rfl, y0, y3, y4, HN⟩
      case rest =>
        rename World => X1
        obtain ⟨rfl, v0, v3, v4, HN⟩ := hcut
        clear y0 y3 y4 y5 yl HUb
        have vl := cell_block v0
        by_cases hk3 : kd = 3
        · subst hk3
          obtain ⟨V, hv1, hv2, hv3, hv4⟩ := HN.out
          have HV : Hid (V.length ≤ i ∧ BdAt X1 p ge gs gg az [] V [] ∧ Kc w5 X1 ∧ Below w.heap.size w X1) := ⟨hv1.2 (by decide), hv2, hv3, hv4⟩
          clear HN hv1 hv2 hv3 hv4
          go_wp2_with fail
          refine (buns_any p ge gs gg az [] V [] nd sb _ HV.out.2.1).mono ?_
          rintro e w7 ⟨hP, k7⟩
          have HN : Hid (∃ V', V'.length ≤ i + 1 ∧ BdAt w7 p ge gs gg az [] V' [] ∧ Kc w5 w7 ∧ Below w.heap.size w w7) := by
            have k1 := HV.out.2.2.1.trans (HV.out.2.1.kc k7)
            have k2 := HV.out.2.2.2.trans (k7.below H6.out.2.1.1 H6.out.2.1.2.1 H6.out.2.1.2.2 HV.out.2.2.2.size)
            have hul := HV.out.1
            rcases hP with ⟨_, _, hb⟩ | ⟨_, _, hb⟩
            · exact ⟨V, by omega, hb, k1, k2⟩
            · exact ⟨_, by have := List.length_filter_le (fun u : Bsb => decide (u.key ≠ (nd, sb))) V; omega, hb, k1, k2⟩
          have hR : ∃ er, e = .returned er := by
            rcases hP with ⟨_, he, _⟩ | ⟨_, he, _⟩
            · exact ⟨_, he⟩
            · exact ⟨_, he⟩
          clear hP k7 v0 v3 v4 vl
          obtain ⟨er, rfl⟩ := hR
          go_wp2
          go_roundg (40 - (i + 1))
          case measure => omega
          case rel => exact ⟨i + 1, by go_num, by omega, by omega, rfl, HN⟩
        · have hk3' : (kd == 3) = false := by simpa using hk3
          have HN2 : Hid (∃ V, V.length ≤ i + 1 ∧ BdAt X1 p ge gs gg az [] V [] ∧ Kc w5 X1 ∧ Below w.heap.size w X1) := by
            obtain ⟨V, hv1, hv2⟩ := HN.out
            exact ⟨V, hv1.1, hv2⟩
          clear HN
          go_wp2
          go_roundg (40 - (i + 1))
          case measure => omega
          case rel => exact ⟨i + 1, by go_num, by omega, by omega, rfl, HN2⟩
    | false =>
      clear hbb
      have hUl : U.length ≤ 40 := by have := HU.out.1; omega
      obtain ⟨WL, hWL⟩ : ∃ W, W = wr := ⟨_, rfl⟩
      rw [← hWL] at HU
      have H8 : Hid (BdAt WL p ge gs gg az [] U [] ∧ Below w.heap.size w WL ∧ VlIn WL (.slice ua vs.length uc) vs) := ⟨HU.out.2.1, HU.out.2.2.2, H6.out.2.2.1.kc HU.out.2.2.1⟩
      have f0 := HU.out.2.2.1.at HF.out.1
      have f1 := HU.out.2.2.1.at HF.out.2
      have fl := cell_block f0
      have HLO : Hid (w.heap.size ≤ ge ∧ w.heap.size ≤ gs ∧ w.heap.size ≤ gg) := H6.out.2.1
      clear HU HF H6 hi40 hil hm1 HT
      go_upto_region 14 with fail
      rw [← hWL]
      clear hWL
      go_wp2_with fail
      refine (bpub_any p ge gs gg az [] U [] 1 1 _ vs pay _ H8.out.1 H8.out.2.2 HVZ.out.1 HVZ.out.2.1 HVZ.out.2.2).mono ?_
      rintro e w9 ⟨hP, k9⟩
      have B9 : Hid (Below w.heap.size w w9) := H8.out.2.1.trans (k9.below HLO.out.1 HLO.out.2.1 HLO.out.2.2 H8.out.2.1.size)
      have K9 := H8.out.1.kc k9
      have f09 := K9.at f0
      have f19 := K9.at f1
      have fl9 := cell_block f09
      have HV9 : Hid (VlIn w9 (.slice ua vs.length uc) vs) := H8.out.2.2.kc K9
      rcases hP with ⟨_, N, rfl, hsf, hb⟩ | ⟨_, ⟨y, hy, _⟩, _⟩ | ⟨hok, _, rfl, hb⟩
      · have HSF : Hid (SchF w9 N ∧ BdAt w9 p ge gs gg az [] U []) := ⟨hsf, hb⟩
        clear k9 K9 H8 f0 f1 fl f09 f19 fl9 hsf hb HV9
        go_wp2_with fail
        refine (bdue_any p ge gs gg az [] U [] 1 1 _ HSF.out.2 (by omega)).mono ?_
        rintro e w10 ⟨hD, b10⟩
        rcases hD with ⟨_, rfl⟩ | ⟨y, hy, _⟩
        rotate_left
        · cases hy
        have H10 : Hid (SchF w10 N ∧ Below w.heap.size w w10) := ⟨HSF.out.1.below b10, B9.out.trans (b10.mono B9.out.size)⟩
        clear b10 HSF B9
        go_wp2_with fail
        refine (awake18_any _ (HE.out.below H10.out.2 HE.out.lt)).mono ?_
        rintro e w11 ⟨rfl, b11⟩
        have H11 : Hid (SchF w11 N ∧ Below w.heap.size w w11) := ⟨H10.out.1.below b11, H10.out.2.trans (b11.mono H10.out.2.size)⟩
        clear b11 H10
        obtain ⟨nn, hnn⟩ := H11.out.1
        have HIS : Hid _ := is_fl2 N 3 3 _ nn _ hnn
        clear hnn
        go_wp2_with fail
        refine Calls.mono HIS.out ?_
        rintro e w12 ⟨rfl, hw⟩
        subst w12
        have c33 : ((3 : Int) == 3) = true := rfl
        go_wp2_with fail
        refine (is_cd 9 9 _).mono ?_
        rintro e w12 ⟨rfl, hw⟩
        subst w12
        have c99 : ((9 : Int) == 9) = true := rfl
        go_wp2
        go_ret
        exact ⟨rfl, H11.out.2⟩
      · simp at hy
      obtain ⟨E1, hE1⟩ : ∃ E1 : Bev, E1 = ⟨(1, 1), vs, pay⟩ := ⟨_, rfl⟩
      simp only [List.nil_append] at hb
      rw [← hE1] at hb
      have HE1 : Hid (E1.key = (1, 1) ∧ E1.vs = vs ∧ E1.pay = pay ∧ EventOk az vs pay.size) := (by rw [hE1]; exact ⟨rfl, rfl, rfl, hok⟩ : E1.key = (1, 1) ∧ E1.vs = vs ∧ E1.pay = pay ∧ EventOk az vs pay.size)
      have H9 : Hid (BdAt w9 p ge gs gg az [E1] U []) := hb
      clear k9 K9 H8 f0 f1 fl hb hE1 hok
      go_wp2_with fail
      refine (bdue_any p ge gs gg az [E1] U [] 1 1 _ H9.out (by omega)).mono ?_
      rintro e w10 ⟨hD, b10⟩
      rcases hD with ⟨hn, _⟩ | ⟨y, hy, _, v, L, rfl, hL, hW⟩
      · exact absurd HE1.out.1 (hn E1 (by simp))
      obtain rfl : y = E1 := by simpa using hy
      obtain ⟨ta, tc, rfl, _⟩ := hW.shape
      have f010 := cell_grown f09 b10
      have f110 := cell_grown f19 b10
      have H10 : Hid (BdAt w10 p ge gs gg az [y] U [] ∧ Below w.heap.size w w10 ∧ WhIn w10 (.slice ta L.length tc) L ∧ DueL U (DueK az [] (1, 1) y) L ∧ VlIn w10 (.slice ua vs.length uc) vs) := ⟨H9.out.below b10, B9.out.trans (b10.mono B9.out.size), hW, hL, HV9.out.below b10⟩
      have HF10 : Hid (w10.cell? ⟨q4, 0, none⟩ = some (.slice ua vs.length uc) ∧ w10.cell? ⟨q4, 1, none⟩ = some (.string pay)) := ⟨f010, f110⟩
      clear b10 hW hL hy H9 B9 f09 f19 fl9 f010 f110 HV9
      have HND : Hid (L.Nodup ∧ L.length ≤ 1000 ∧ (U.map Bsb.key).Nodup) := by
        have h0 : L.Nodup := H10.out.2.2.2.1.1.imp (fun {a b} h e => by subst e; exact ltP_irrefl _ h)
        have h1 := nodup_sub2 L (U.map Bsb.key) h0 (fun k hk => by
          obtain ⟨u, hu, e, _⟩ := (H10.out.2.2.2.1.2 k).1 hk
          exact List.mem_map.2 ⟨u, hu, e⟩)
        rw [List.length_map] at h1
        exact ⟨h0, by omega, bd_keys H10.out.1⟩
      have hLl := HND.out.2.1
      obtain ⟨nL, hnL⟩ : ∃ k, k = L.length := ⟨_, rfl⟩
      rw [← hnL] at hLl H10 ⊢
      have HNL : Hid (nL = L.length) := hnL
      clear hnL
      go_wp2
      go_loopg [118] nL (fun kx s wr => ∃ i : Nat, s = .int .i64 i ∧ i ≤ nL ∧ kx = nL - i ∧ Hid (∃ G, BdAt wr p ge gs gg az [y] U G ∧ Kc w10 wr ∧ Below w.heap.size w wr ∧ G = (L.take i).map (fun k => (k, ((1, 1) : Int × Int)))))
      case atStart => exact ⟨0, rfl, Nat.zero_le _, rfl, ⟨[], H10.out.1, Kc.ofBelow (Below.refl _ _), H10.out.2.1, by simp⟩⟩
      case round =>
        rename World => wr
        obtain ⟨i, rfl, hi, rfl, HB⟩ := hrel
        obtain ⟨G, hG1, hG2, hG3, hG4⟩ := HB.out
        have HG : Hid (BdAt wr p ge gs gg az [y] U G ∧ Kc w10 wr ∧ Below w.heap.size w wr ∧ G = (L.take i).map (fun k => (k, ((1, 1) : Int × Int)))) := ⟨hG1, hG2, hG3, hG4⟩
        clear HB hG1 hG2 hG3 hG4
        have f0 := HG.out.2.1.at HF10.out.1
        have f1 := HG.out.2.1.at HF10.out.2
        have fl := cell_block f0
        by_cases hlt : i < nL
        · have hltI : (i : Int) < (nL : Int) := by omega
          have hwh := H10.out.2.2.1.kc HG.out.2.1
          obtain ⟨a', c', hv', _, hh⟩ := hwh.shape
          obtain ⟨g, hga, hgl, hgc⟩ := hh (by have := HNL.out; omega)
          simp at hv'
          obtain ⟨rfl, hz9, rfl⟩ := hv'
          clear hz9
          subst hga
          obtain ⟨y0, y1⟩ := hgc i (by have := HNL.out; omega)
          have hiL : i < L.length := by have := HNL.out; omega
          have hgd : L.getD i (0, 0) = L[i] := by rw [List.getD_eq_getElem?_getD, List.getElem?_eq_getElem hiL]; rfl
          have hsn : L.take (i + 1) = L.take i ++ [L.getD i (0, 0)] := by
            rw [hgd, List.take_succ_eq_append_getElem hiL]
          have hmem : L.getD i (0, 0) ∈ L := by rw [hgd]; exact List.getElem_mem _
          have hout : L.getD i (0, 0) ∉ L.take i := fun hm => by
            have hs : (L.take (i + 1)).Nodup := HND.out.1.sublist (List.take_sublist _ _)
            rw [hsn] at hs
            exact (List.nodup_append.1 hs).2.2 _ hm _ (by simp) rfl
          obtain ⟨kk, hkk⟩ : ∃ k, k = L.getD i (0, 0) := ⟨_, rfl⟩
          rw [← hkk] at y0 y1 hsn hmem hout
          have hdue := (H10.out.2.2.2.1.2 kk).1 hmem
          have HKK : Hid (L.take (i + 1) = L.take i ++ [kk] ∧ (∃ u ∈ U, u.key = kk ∧ MatchOk az u.ps y.vs y.pay.size) ∧ (kk, y.key) ∉ G) := by
            refine ⟨hsn, ?_, ?_⟩
            · obtain ⟨u, h1, h2, h3⟩ := hdue
              exact ⟨u, h1, h2, h3.1⟩
            · rw [HG.out.2.2.2]
              intro hm
              obtain ⟨k2, h1, h2⟩ := List.mem_map.1 hm
              have : k2 = kk := congrArg Prod.fst h2
              rw [this] at h1
              exact hout h1
          obtain ⟨k1, k2⟩ := kk
          simp only at y0 y1
          clear hwh hh hgc hsn hkk hmem hout hdue hgd hiL
          obtain ⟨W6, hW6⟩ : ∃ W6, W6 = wr.alloc (.cells #[.int .i64 k1, .int .i64 k2] 44) := ⟨_, rfl⟩
          obtain ⟨qw, hqw⟩ : ∃ q, q = wr.heap.size := ⟨_, rfl⟩
          have b6 : Below wr.heap.size wr W6 := by rw [hW6]; exact b_one _ _
          have r0 : W6.cell? ⟨qw, 0, none⟩ = some (.int .i64 k1) := by rw [hW6, hqw]; exact World.cell?_alloc_new ..
          have r1 : W6.cell? ⟨qw, 1, none⟩ = some (.int .i64 k2) := by rw [hW6, hqw]; simp
          have rl := cell_block r0
          replace f0 := cell_grown f0 b6
          replace f1 := cell_grown f1 b6
          replace fl := cell_block f0
          go_upto_region 24 with fail
          rw [← hW6]
          try rw [← hqw]
          clear hW6 hqw y0 y1
          obtain ⟨W7, hW7⟩ : ∃ W7, W7 = W6.alloc (.cells #[.int .i64 k2, .int .i64 1, .int .i64 1, .slice ua vs.length uc, .string pay] 54) := ⟨_, rfl⟩
          obtain ⟨qd, hqd⟩ : ∃ q, q = W6.heap.size := ⟨_, rfl⟩
          have b7 : Below W6.heap.size W6 W7 := by rw [hW7]; exact b_one _ _
          have s0 : W7.cell? ⟨qd, 0, none⟩ = some (.int .i64 k2) := by rw [hW7, hqd]; exact World.cell?_alloc_new ..
          have s1 : W7.cell? ⟨qd, 1, none⟩ = some (.int .i64 1) := by rw [hW7, hqd]; simp
          have s2 : W7.cell? ⟨qd, 2, none⟩ = some (.int .i64 1) := by rw [hW7, hqd]; simp
          have s3 : W7.cell? ⟨qd, 3, none⟩ = some (.slice ua vs.length uc) := by rw [hW7, hqd]; simp
          have s4 : W7.cell? ⟨qd, 4, none⟩ = some (.string pay) := by rw [hW7, hqd]; simp
          have sl := cell_block s0
          have HR7 : Hid (W7.cell? ⟨qw, 0, none⟩ = some (.int .i64 k1) ∧ W7.cell? ⟨qw, 1, none⟩ = some (.int .i64 k2)) := ⟨cell_grown r0 b7, cell_grown r1 b7⟩
          have b67 := b6.trans (b7.mono b6.size)
          have H7 : Hid (BdAt W7 p ge gs gg az [y] U G ∧ Kc w10 W7 ∧ Below w.heap.size w W7 ∧ VlIn W7 (.slice ua vs.length uc) vs) := by
            have kc := HG.out.2.1.trans (Kc.ofBelow b67)
            exact ⟨HG.out.1.below b67, kc, HG.out.2.2.1.trans (b67.mono HG.out.2.2.1.size), H10.out.2.2.2.2.kc kc⟩
          clear b6 b7 b67
          go_upto_region 25 with fail
          rw [← hW7]
          try rw [← hqd]
          clear hW7 hqd f0 f1 fl r0 r1 rl
          have r0 := HR7.out.1
          have r1 := HR7.out.2
          have rl := cell_block r0
          clear HR7
          go_wp2_with fail
          refine (bgive_any p ge gs gg az [y] U G k1 k2 1 1 _ vs pay _ H7.out.1 H7.out.2.2.2 HVZ.out.1).mono ?_
          rintro e w8 ⟨hP, k8⟩
          have K8 := H7.out.1.kc k8
          have hyk := HE1.out.1
          rcases hP with ⟨_, rfl, hb8⟩ | ⟨c, hc0, hgc, _⟩
          rotate_left
          · rw [← hyk] at hgc
            rcases give_is HND.out.2.2 HE1.out.2.1 HE1.out.2.2.1 HKK.out.2.1 hgc with ⟨_, hin⟩ | ⟨h0, _⟩
            · exact absurd hin HKK.out.2.2
            · exact absurd h0 hc0
          have H8 : Hid (BdAt w8 p ge gs gg az [y] U (G ++ [((k1, k2), (1, 1))]) ∧ Kc w10 w8 ∧ Below w.heap.size w w8 ∧ VlIn w8 (.slice ua vs.length uc) vs) := ⟨hb8, H7.out.2.1.trans K8, H7.out.2.2.1.trans (k8.below HLO.out.1 HLO.out.2.1 HLO.out.2.2 H7.out.2.2.1.size), H7.out.2.2.2.kc K8⟩
          replace r0 := K8.at r0
          replace r1 := K8.at r1
          replace rl := cell_block r0
          replace s0 := K8.at s0
          replace s1 := K8.at s1
          replace s2 := K8.at s2
          replace s3 := K8.at s3
          replace s4 := K8.at s4
          replace sl := cell_block s0
          clear k8 K8 hb8 H7 hyk
          go_wp2_with fail
          refine (bgive_any p ge gs gg az [y] U (G ++ [((k1, k2), (1, 1))]) k1 k2 1 1 _ vs pay _ H8.out.1 H8.out.2.2.2 HVZ.out.1).mono ?_
          rintro e w9 ⟨hP, k9⟩
          have K9 := H8.out.1.kc k9
          have hyk := HE1.out.1
          have hP2 : e = .returned (.iface 52 (.int .i64 5)) ∧ BdAt w9 p ge gs gg az [y] U (G ++ [((k1, k2), (1, 1))]) := by
            rcases hP with ⟨hgc, _⟩ | ⟨c, hc0, hgc, he, hb⟩
            · rw [← hyk] at hgc
              rcases give_is HND.out.2.2 HE1.out.2.1 HE1.out.2.2.1 HKK.out.2.1 hgc with ⟨h0, _⟩ | ⟨_, hno⟩
              · exact absurd h0 (by decide)
              · exact absurd (by simp) hno
            · rw [← hyk] at hgc
              rcases give_is HND.out.2.2 HE1.out.2.1 HE1.out.2.2.1 HKK.out.2.1 hgc with ⟨h5, _⟩ | ⟨h0, _⟩
              · subst h5; exact ⟨he, hb⟩
              · exact absurd h0 hc0
          obtain ⟨rfl, hb9⟩ := hP2
          have H9 : Hid (∃ G', BdAt w9 p ge gs gg az [y] U G' ∧ Kc w10 w9 ∧ Below w.heap.size w w9 ∧ G' = (L.take (i + 1)).map (fun k => (k, ((1, 1) : Int × Int)))) :=
            ⟨_, hb9, H8.out.2.1.trans K9, H8.out.2.2.1.trans (k9.below HLO.out.1 HLO.out.2.1 HLO.out.2.2 H8.out.2.2.1.size), by rw [HKK.out.1, List.map_append, ← HG.out.2.2.2]; rfl⟩
          clear k9 K9 hb9 H8 hyk hP r0 r1 rl s0 s1 s2 s3 s4 sl
          go_wp2_with fail
          refine (is_cd 5 5 _).mono ?_
          rintro e w12 ⟨rfl, hw⟩
          subst w12
          have c55 : ((5 : Int) == 5) = true := rfl
          go_wp2
          go_roundg (nL - (i + 1))
          case measure => omega
          case rel => exact ⟨i + 1, by go_num, by omega, rfl, H9⟩
        · obtain rfl : i = nL := by omega
          obtain ⟨WL, hWL⟩ : ∃ W, W = wr := ⟨_, rfl⟩
          rw [← hWL] at HG f0 f1 fl
          have HGL : Hid (G = L.map (fun k => (k, ((1, 1) : Int × Int)))) := by
            have := HG.out.2.2.2
            rw [List.take_of_length_le (by have := HNL.out; omega)] at this
            exact this
          go_upto_region 28 with fail
          rw [← hWL]
          clear hWL
          go_wp2_with fail
          refine (bdue_any p ge gs gg az [y] U G 1 1 _ HG.out.1 (by omega)).mono ?_
          rintro e w11 ⟨hD, b11⟩
          rcases hD with ⟨hn, _⟩ | ⟨y2, hy2, _, v, M, rfl, hL2, hW2⟩
          · exact absurd HE1.out.1 (hn y (by simp))
          obtain rfl : y2 = y := by simpa using hy2
          have hM : M = [] := by
            cases hM : M with
            | nil => rfl
            | cons k M' =>
              exfalso
              obtain ⟨u, hu1, hu2, hu3, hu4⟩ := (hL2.2 k).1 (by rw [hM]; simp)
              have hkL : k ∈ L := (H10.out.2.2.2.1.2 k).2 ⟨u, hu1, hu2, hu3, by simp⟩
              refine hu4 ?_
              rw [HGL.out, hu2]
              exact List.mem_map.2 ⟨k, hkL, rfl⟩
          subst hM
          obtain ⟨tb, td, rfl, _⟩ := hW2.shape
          have H11 : Hid (BdAt w11 p ge gs gg az [y2] U G ∧ Below w.heap.size w w11 ∧ VlIn w11 (.slice ua vs.length uc) vs) := ⟨HG.out.1.below b11, HG.out.2.2.1.trans (b11.mono HG.out.2.2.1.size), (H10.out.2.2.2.2.kc HG.out.2.1).below b11⟩
          replace f0 := cell_grown f0 b11
          replace f1 := cell_grown f1 b11
          replace fl := cell_block f0
          clear b11 hW2 hL2 hy2 HG HGL hlt
          go_wp2_with fail
          refine (awake18_any _ (HE.out.below H11.out.2.1 HE.out.lt)).mono ?_
          rintro e w13 ⟨rfl, b13⟩
          have H13 : Hid (BdAt w13 p ge gs gg az [y2] U G ∧ Below w.heap.size w w13 ∧ VlIn w13 (.slice ua vs.length uc) vs) := ⟨H11.out.1.below b13, H11.out.2.1.trans (b13.mono H11.out.2.1.size), H11.out.2.2.below b13⟩
          replace f0 := cell_grown f0 b13
          replace f1 := cell_grown f1 b13
          replace fl := cell_block f0
          clear b13 H11
          go_wp2_with fail
          refine (bpub_any p ge gs gg az [y2] U G 1 1 _ vs pay _ H13.out.1 H13.out.2.2 HVZ.out.1 HVZ.out.2.1 HVZ.out.2.2).mono ?_
          rintro e w14 ⟨hP, k14⟩
          have B14 : Hid (Below w.heap.size w w14) := H13.out.2.1.trans (k14.below HLO.out.1 HLO.out.2.1 HLO.out.2.2 H13.out.2.1.size)
          rcases hP with ⟨hn, _⟩ | ⟨_, _, rfl, hb⟩ | ⟨_, hn, _⟩
          · exact absurd HE1.out.2.2.2 hn
          rotate_left
          · exact absurd HE1.out.1 (hn y2 (by simp))
          clear k14 hb H13 f0 f1 fl
          go_wp2_with fail
          refine (is_cd 5 5 _).mono ?_
          rintro e w15 ⟨rfl, hw⟩
          subst w15
          have c55 : ((5 : Int) == 5) = true := rfl
          go_wp2
          go_ret
          exact ⟨rfl, B14.out⟩

/-! ### The row's step -/
set_option maxRecDepth 100000 in
set_option maxHeartbeats 8000000 in
theorem lifted (os : Os) (started : os.Started) (H : Type) (enc : TypeId × Value → H) :
    ReturnsInHanded {} Tryz.checked os 3 .any (fun w args => (Rows.boardOnceSpec.pre enc Tryz.prog Tryz.f3 [] false w args ∧ laidMetH Tryz.prog Rows.boardOnceRow.laid w) ∧ sizedMet enc Tryz.prog Tryz.f3 (OpenSpec.ofChange Rows.boardOnceSpec) false w args) (Rows.boardOnceSpec.post enc Tryz.prog Tryz.f3 false true false false) := by
  refine returnsInHanded_of_change_and (C := Tryz.checked) (X := fun w _ => laidMetH Tryz.prog Rows.boardOnceRow.laid w) (fun _ _ _ hh h => h.of_heap hh) own started (by kernel_rfl) Tryz.func3
    (ChangeSpec.witness_at (enc := enc) (C := Tryz.checked) (os := os) (X := fun w _ => laidMetH Tryz.prog Rows.boardOnceRow.laid w) false ({ World.holding Tryz.prog os ⟨#[], #[], []⟩ with heap := witHeap5 (World.holding Tryz.prog os ⟨#[], #[], []⟩).heap }) #[.slice none 0 0, .slice none 0 0, .agg #[.slice none 0 0, .string ByteArray.empty]] 8 rfl (by kernel_rfl) (by kernel_rfl) (by kernel_rfl) (by kernel_rfl) (by kernel_rfl) (laidMetH_of_parts (laidMet_of_run' 8 (by kernel_rfl) (by kernel_rfl)) (by kernel_rfl))) ?_
  intro W base args ds gs before hval0 hW _ _ hL _
  have hval : ∀ (j : Nat) t v, Tryz.f3.params[j]? = some t → args[j]? = some v → Value.okWide Tryz.prog W .any base t v := hval0
  have hW' := hW
  obtain ⟨p, q, hA0, hV, rfl, hfz, hnd⟩ := hW
  have hA : DataW.TrodAll enc Tryz.prog W 0 (fun _ => true) true Tryz.f3.params.toList args.toList ds p := hA0
  rw [Tryz.params3] at hA hval
  obtain ⟨v0, vs0, d0, ds0, p0, q0, hargs, rfl, rfl, h0, r0⟩ := trodAll_cons hA
  obtain ⟨v1, vs1, d1, ds1, p1, q1, rfl, rfl, rfl, h1, r1⟩ := trodAll_cons r0
  obtain ⟨v2, vs2, d2, ds2, p2, q2, rfl, rfl, rfl, h2, r2⟩ := trodAll_cons r1
  obtain ⟨rfl, rfl, rfl⟩ := trodAll_nil r2
  obtain rfl : args = #[v0, v1, v2] := by cases args; simp_all
  obtain ⟨rfl, rfl⟩ := trodVars_none hV
  obtain ⟨a0, len0, cap0, rfl⟩ := okWide_slice Tryz.underlying23 (hval 0 23 v0 rfl rfl)
  have k0 := h0
  have lt0 : ∀ x ∈ p0, x.block < W.heap.size := by obtain ⟨m, hm⟩ := k0; exact DataW.trod_lt m _ _ _ hm
  obtain ⟨t0, w0⟩ : ∃ ts, InRow 4 At.cells At.ok at0 W a0 len0 ts := by
    obtain ⟨fuel, hf⟩ := h0
    exact inrow_of 4 At.cells At.ok at0 23 74 Tryz.underlying23 cellsAt (by omega) At.cells_len (fun n cs x => at_of n cs x) hf
  obtain ⟨a1, len1, cap1, rfl⟩ := okWide_slice Tryz.underlying24 (hval 1 24 v1 rfl rfl)
  have k1 := h1
  have lt1 : ∀ x ∈ p1, x.block < W.heap.size := by obtain ⟨m, hm⟩ := k1; exact DataW.trod_lt m _ _ _ hm
  obtain ⟨t1, w1⟩ : ∃ ts, InRow 8 Ac18.cells Ac18.ok ac180 W a1 len1 ts := by
    obtain ⟨fuel, hf⟩ := h1
    exact inrow_of 8 Ac18.cells Ac18.ok ac180 24 41 Tryz.underlying24 cellsAc18 (by omega) lenAc18 (fun n cs x => ac18_of n cs x) hf
  obtain ⟨cs2, rfl, hcs2⟩ := okWide_struct Tryz.underlying27 (hval 2 27 v2 rfl rfl)
  have k2 := h2
  have lt2 : ∀ x ∈ p2, x.block < W.heap.size := by obtain ⟨m, hm⟩ := k2; exact DataW.trod_lt m _ _ _ hm
  obtain ⟨fuel2, hf2⟩ := h2
  obtain ⟨a2, len2, cap2, t2, s2, rfl, w2, z2⟩ := ev_of hcs2 hf2
  clear hA0 hval0
  have hE := genv_of_laid5 hL
  refine (walk a0 len0 cap0 t0 a1 len1 cap1 t1 a2 len2 cap2 t2 s2 W hE w0 w1 w2 z2).mono fun e W' ⟨he, bel⟩ => ?_
  subst he
  exact ⟨_, rfl, _, _, _, [], _, [], hW', trodAll_mk1 (shut_bool Tryz.underlying4 _), (trodAll_cons_mk (Below.trod laidOut (by kernel_rfl) (of_decide_eq_true (by kernel_rfl)) k0 bel lt0) (trodAll_cons_mk (Below.trod laidOut (by kernel_rfl) (of_decide_eq_true (by kernel_rfl)) k1 bel lt1) (trodAll_cons_mk (Below.trod laidOut (by kernel_rfl) (of_decide_eq_true (by kernel_rfl)) k2 bel lt2) trodAll_mk0))), rfl, bel.frame _, fun h => by cases h⟩

theorem over : Rows.boardOnceRow.holds Tryz.pinned (OpenSpec.ofChange Rows.boardOnceSpec) :=
  OpenClaim.holds_of_wide 3 Tryz.f3 rfl rfl rfl rfl rfl rfl rfl ⟨rfl, rfl, rfl, rfl, rfl⟩ rfl rfl rfl rfl rfl (by kernel_rfl) Tryz.func3 (by kernel_rfl)
    (of_decide_eq_true (by kernel_rfl)) (by unfold Func.isWrapper; first | (rw [if_pos (by decide +kernel)]; kernel_rfl) | (rw [if_neg (by decide +kernel)]; exact ⟨rfl, rfl⟩))
    (fun os started H enc _ => lifted os started H enc)

theorem card : Rows.BoardOnceCardSaid :=
  Claim7.holds_tied_plain_at .later [] [.data, .data, .data, .sentinel, .sentinel] true (true, "02bdbaa27e9ee3cb02aab0e12b93f5ebb7efa351a57ac180e399f37158e8023a") true
    over (fun _ h => by cases h) (by kernel_rfl) (fun _ h => by cases h) boardOnce_row_tie rfl ⟨rfl, rfl⟩ (by kernel_rfl) rfl
    (fun f fn hf hfn => by
      obtain rfl : f = 3 := Option.some.inj ((show Tryz.prog.funcNamed "wigwag/wigwaglaw18.BoardOnce" = some 3 by kernel_rfl).symm.trans hf) |>.symm
      obtain rfl : fn = Tryz.f3 := (Option.some.inj (Tryz.func3.symm.trans hfn)).symm
      exact ⟨by kernel_rfl, fun j t ht => by
        rw [Tryz.params3] at ht
        have hall : ∀ t ∈ ([23, 24, 27] : List TypeId), Tryz.prog.wantsStandIn t = false := by
          intro t ht
          simp only [List.mem_cons, List.not_mem_nil, or_false] at ht
          rcases ht with rfl | rfl | rfl <;> kernel_rfl
        exact hall t (by simpa using List.mem_of_getElem? (l := ([23, 24, 27] : List TypeId)) (i := j) (by simpa using ht))⟩)
    (by kernel_rfl)

end Go.Proofs.YtkncpojijfeahaaGreatDoor.boardOnce

namespace Go.Proofs.YtkncpojijfeahaaGreatDoor
/-- Proved: for every schema, every list of calls and every event, BoardOnce answers true (what is given to all that are due leaves nobody due, and isn't given again; behind any 40 calls), the library's variables being laid as the program's text lays them (the card's tie). -/
theorem boardOnce_holds : Rows.BoardOnceCardSaid := boardOnce.card
#print axioms boardOnce_holds
end Go.Proofs.YtkncpojijfeahaaGreatDoor
