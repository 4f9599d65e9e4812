/- Proved: for every schema, two texts and an event, BoardAgain answers true (who stands there, or is published, isn't again; what is refused changes nothing), the library's variables being laid as the program's text lays them (the card's tie).
  The frame is the guide's own shell (proof-skeleton.mjs) at this function; the walk and all ahead of it are mine. -/
import Derived.Test.YtpepbhmdfjpblaaGreatDoorRows
import Derived.Test.YtpepbhmdfjpblaaGreatDoorJoinBkDo
import Derived.Test.YtpepbhmdfjpblaaGreatDoorValEv
import Derived.Deep.CutBlock
import Derived.Deep.DeepCutAuto
import Derived.Deep.LoopGhost
import Derived.Deep.RegionWith
import Derived.WalkKit
import Derived.WalkLawsBesides
import Derived.ProofKit
import Derived.OpenShut
import Derived.ChangeSame
import Derived.ChangeVars
import Derived.JoinedOf
import Derived.RowKit
import Derived.RowKitTokens
import Derived.LaidLaws
import Derived.LaidHandle
import Derived.Stop.Joined
import Derived.SevenTiedAt
import Derived.Test.YtpepbhmdfjpblaaGreatDoorTie
import Derived.Test.YtpepbhmdfjpblaaGreatDoorCards
import Derived.ShutString
import Derived.ChangeOld
import Derived.Below
namespace Go.Proofs.YtpepbhmdfjpblaaGreatDoor.boardAgain
open Go.ChangeShapes Go.WideShapes Go.ChangeAt Go.RowKit
open Go.ChangeMaps (open_string shut_string)
set_option linter.unusedVariables false

theorem own : ownKnob Tryz.prog.godebug = none := by kernel_rfl
theorem laidOut : laidOutB Tryz.prog = true := by kernel_rfl


theorem sz_cutA' (t : List At) : ∀ i, i < ((t.take 6).map cutA).length → (((t.take 6).map cutA).getD i at0).name.size ≤ maxLen := fun i hi => by
  have hi' : i < 6 ∧ i < t.length := by simp at hi; omega
  have e : ((t.take 6).map cutA).getD i at0 = cutA t[i] := by simp [hi'.1, hi'.2]
  rw [e]
  have := cut_size t[i].name 20
  show (cut t[i].name 20).size ≤ maxLen
  unfold maxLen; omega
theorem sz_cutV' (t : List Vl) : ∀ i, i < ((t.take 6).map cutV).length → (((t.take 6).map cutV).getD i vl0).str.size ≤ maxLen := fun i hi => by
  have hi' : i < 6 ∧ i < t.length := by simp at hi; omega
  have e : ((t.take 6).map cutV).getD i vl0 = cutV t[i] := by simp [hi'.1, hi'.2]
  rw [e]
  have := cut_size t[i].str 50
  show (cut t[i].str 50).size ≤ maxLen
  unfold maxLen; omega
/-- What a call of Subscribe leaves: a board with the subscription or without it. -/
def SubR (er : Value) (w' : World) (p ge gs gg : Nat) (S : List At) (E : List Bev) (U : List Bsb) (G : List Bgf) (k : Int × Int) : Prop :=
  (∃ x : Bsb, x.key = k ∧ (∀ y ∈ U, y.key ≠ k) ∧ er = .nilIface ∧ BdAt w' p ge gs gg S E (U ++ [x]) G) ∨
  (BdAt w' p ge gs gg S E U G ∧ (((∃ y ∈ U, y.key = k) ∧ er = .iface 36 (.int .i64 5)) ∨ (∃ N, er = .iface 170 (.pointer (some ⟨N, 0, none⟩)) ∧ (FaultIn w' N ∨ ∃ pl, FaultAt w' N pl 2))))
theorem sub_r (p ge gs gg : Nat) (S : List At) (E : List Bev) (U : List Bsb) (G : List Bgf) (nd id : Int) (s : ByteArray) (w : World) (h : BdAt w p ge gs gg S E U G) (hE : Env w) (hs : s.size ≤ 300) :
    Calls Tryz.prog 18 #[.pointer (some ⟨p, 0, none⟩), .agg #[.int .i64 nd, .int .i64 id], .string s] w fun e w' => ∃ er, e = .returned er ∧ SubR er w' p ge gs gg S E U G (nd, id) ∧ Kb w w' ge gs gg := by
  obtain ⟨ps, cd, pl, h1, h2, h3, h4⟩ := two_q3 s hs
  refine (bsub_any p ge gs gg S E U G nd id s ps cd pl w h hE h1 h2 h3).mono ?_
  rintro e w' ⟨hP, k⟩
  rcases hP with ⟨hc, ⟨N, rfl, hF⟩, hb⟩ | ⟨_, _, ⟨N, rfl, hF⟩, hb⟩ | ⟨_, _, hy, rfl, hb⟩ | ⟨_, _, hy, rfl, hb⟩
  · have h4 : cd = 2 := h4.resolve_left hc
    subst h4
    exact ⟨_, rfl, .inr ⟨hb, .inr ⟨N, rfl, .inr ⟨pl, hF⟩⟩⟩, k⟩
  · exact ⟨_, rfl, .inr ⟨hb, .inr ⟨N, rfl, .inl hF⟩⟩, k⟩
  · exact ⟨_, rfl, .inr ⟨hb, .inl ⟨hy, rfl⟩⟩, k⟩
  · exact ⟨_, rfl, .inl ⟨⟨(nd, id), ps.map pdOf⟩, rfl, hy, rfl, hb⟩, k⟩
theorem due_one {V : List Bsb} {tk : Bsb → Prop} {L : List (Int × Int)} (hV : V.length ≤ 1) (h : DueL V tk L) : L.length ≤ 1 := by
  match L, h with
  | [], _ => simp
  | [_], _ => simp
  | a :: b :: L, h =>
    obtain ⟨u, hu, ha, _⟩ := (h.2 a).1 (by simp)
    obtain ⟨v, hv, hb, _⟩ := (h.2 b).1 (by simp)
    have e : u = v := by
      match V, hV with
      | [], _ => simp at hu
      | [z], _ => simp at hu hv; rw [hu, hv]
      | _ :: _ :: _, hV => simp at hV
    subst e
    have hl : ltP a b := (List.pairwise_cons.1 h.1).1 b (by simp)
    rw [← ha, ← hb] at hl
    unfold ltP at hl
    omega
/-! ### STEP 1: the walk -/
set_option maxRecDepth 100000 in
set_option maxHeartbeats 2000000 in
theorem walk (a0 : Option Addr) (len0 cap0 : Nat) (t0 : List At) (a1 : ByteArray) (a2 : ByteArray) (a3 : Option Addr) (len3 cap3 : Nat) (t3 : List Vl) (s3 : ByteArray) (w : World) (hE : Env w) (w0 : InRow 4 At.cells At.ok at0 w a0 len0 t0) (w1 : a1.size ≤ maxLen) (w2 : a2.size ≤ maxLen) (w3 : InRow 2 Vl.cells Vl.ok vl0 w a3 len3 t3) (z3 : s3.size ≤ maxLen) :
    Calls Tryz.prog 7 #[.slice a0 len0 cap0, .string a1, .string a2, .agg #[.slice a3 len3 cap3, .string s3]] w fun e w' => e = .returned (.bool true) ∧ Below w.heap.size w w' := by
  have HE : Hid (Env w) := hE
  obtain ⟨W1, hW1⟩ : ∃ W1, W1 = w.alloc (.cells #[.slice a3 len3 cap3, .string s3] 44) := ⟨_, rfl⟩
  have b1 : Below w.heap.size w W1 := by rw [hW1]; exact b_one _ _
  have x0 : W1.cell? ⟨w.heap.size, 0, none⟩ = some (.slice a3 len3 cap3) := by rw [hW1]; exact cell_at (j := 0) rfl (by simp)
  have x1 : W1.cell? ⟨w.heap.size, 1, none⟩ = some (.string s3) := by rw [hW1]; exact cell_at (j := 1) rfl (by simp)
  have H1 : Hid (InRow 4 At.cells At.ok at0 W1 a0 len0 t0 ∧ InRow 2 Vl.cells Vl.ok vl0 W1 a3 len3 t3 ∧ s3.size ≤ maxLen ∧ Below w.heap.size w W1) := ⟨w0.below (Nat.le_refl _) b1, w3.below (Nat.le_refl _) b1, z3, b1⟩
  have HT : Hid (a1.size ≤ maxLen ∧ a2.size ≤ maxLen) := ⟨w1, w2⟩
  clear w0 w1 w2 w3 z3 hE b1
  have xl := cell_block x0
  go_enter Tryz.func7, Tryz.ntmps7
  go_upto_region 1 with fail
  rw [← hW1]
  clear hW1
  generalize hq : w.heap.size = q at x0 x1 xl ⊢
  go_wp2_with fail
  refine (attrs_any _ _ _ t0 _ H1.out.1).mono ?_
  rintro e w2 ⟨v1, v2, rfl, R⟩
  obtain ⟨az, haz⟩ : ∃ az, az = (t0.take 6).map cutA := ⟨_, rfl⟩
  have hsz : ∀ i, i < az.length → (az.getD i at0).name.size ≤ maxLen := by rw [haz]; exact sz_cutA' t0
  have haz6 : az.length ≤ 1000 := by rw [haz]; simp; omega
  rw [← haz] at R
  clear haz
  have hA := AtIn.ofOwn R.r1
  have b2 := R.bel
  obtain ⟨sa, sc, rfl, _⟩ := hA.shape
  have x02 := cell_grown x0 b2
  have x12 := cell_grown x1 b2
  have xl2 := cell_block x02
  have H2 : Hid (AtIn w2 (.slice sa az.length sc) az ∧ InRow 2 Vl.cells Vl.ok vl0 w2 a3 len3 t3 ∧ s3.size ≤ maxLen ∧ Below w.heap.size w w2) := ⟨hA, H1.out.2.1.below (Nat.le_refl _) b2, H1.out.2.2.1, H1.out.2.2.2.trans (b2.mono H1.out.2.2.2.size)⟩
  have HSZ : Hid (az.length ≤ 1000 ∧ ∀ i, i < az.length → (az.getD i at0).name.size ≤ maxLen) := ⟨haz6, hsz⟩
  clear R hA b2 x0 x1 xl H1 hsz haz6
  go_wp2_with fail
  refine (ev_any _ _ _ _ t3 _ H2.out.2.1 H2.out.2.2.1).mono ?_
  rintro e w3 ⟨v3, v4, rfl, r1, _, _, b3⟩
  obtain ⟨vs, hvs⟩ : ∃ vs, vs = (t3.take 6).map cutV := ⟨_, rfl⟩
  have hvz : ∀ i, i < vs.length → (vs.getD i vl0).str.size ≤ maxLen := by rw [hvs]; exact sz_cutV' t3
  have hv6 : vs.length ≤ 1000 := by rw [hvs]; simp; omega
  rw [← hvs] at r1
  obtain ⟨pay, hpay⟩ : ∃ pay, pay = cut s3 210 := ⟨_, rfl⟩
  have hpz : pay.size ≤ maxLen := by have := cut_size s3 210; rw [hpay]; unfold maxLen; omega
  rw [← hpay]
  clear hvs hpay
  obtain ⟨ua, uc, rfl, _⟩ := (VlIn.ofOwn r1).shape
  obtain ⟨W4, hW4⟩ : ∃ W4, W4 = w3.alloc (.cells #[.slice ua vs.length uc, .string pay] 44) := ⟨_, rfl⟩
  have b4 : Below w3.heap.size w3 W4 := by rw [hW4]; exact b_one _ _
  have f0 : W4.cell? ⟨w3.heap.size, 0, none⟩ = some (.slice ua vs.length uc) := by rw [hW4]; exact cell_at (j := 0) rfl (by simp)
  have f1 : W4.cell? ⟨w3.heap.size, 1, none⟩ = some (.string pay) := by rw [hW4]; exact cell_at (j := 1) rfl (by simp)
  have b34 := b3.trans (b4.mono b3.size)
  have H4 : Hid (AtIn W4 (.slice sa az.length sc) az ∧ VlIn W4 (.slice ua vs.length uc) vs ∧ Below w.heap.size w W4) := ⟨H2.out.1.below b34, (VlIn.ofOwn r1).below b4, H2.out.2.2.2.trans (b34.mono H2.out.2.2.2.size)⟩
  have HVZ : Hid (vs.length ≤ 1000 ∧ pay.size ≤ maxLen ∧ ∀ i, i < vs.length → (vs.getD i vl0).str.size ≤ maxLen) := ⟨hv6, hpz, hvz⟩
  clear H2 b3 b4 b34 r1 x02 x12 xl2 hvz hv6 hpz
  go_upto_region 3 with fail
  rw [← hW4]
  clear hW4 hq
  generalize hq4 : w3.heap.size = q4 at f0 f1 ⊢
  clear hq4
  have fl := cell_block f0
  go_wp2_with fail
  refine (bnew_any _ az _ H4.out.1 HSZ.out.1 HSZ.out.2).mono ?_
  rintro e w5 ⟨hN, b5⟩
  have H5B : Hid (Below w.heap.size w w5) := H4.out.2.2.trans (b5.mono H4.out.2.2.size)
  rcases hN with ⟨_, p, ge, gs, gg, rfl, hb, _, l1, l2, l3⟩ | ⟨_, N, rfl, _⟩
  rotate_left
  · clear b5 H4 f0 f1 fl
    go_wp2_with fail
    refine (awake18_any _ (HE.out.below H5B.out HE.out.lt)).mono ?_
    rintro e w6 ⟨rfl, b6⟩
    have H6 : Hid (Below w.heap.size w w6) := H5B.out.trans (b6.mono H5B.out.size)
    clear b6
    go_wp2
    go_ret
    exact ⟨rfl, H6.out⟩
  have wl := H4.out.2.2.size
  have f05 := cell_grown f0 b5
  have f15 := cell_grown f1 b5
  obtain ⟨W6, hW6⟩ : ∃ W6, W6 = w5.alloc (.cells #[.int .i64 1, .int .i64 2] 56) := ⟨_, rfl⟩
  have b6 : Below w5.heap.size w5 W6 := by rw [hW6]; exact b_one _ _
  have k0 : W6.cell? ⟨w5.heap.size, 0, none⟩ = some (.int .i64 1) := by rw [hW6]; exact cell_at (j := 0) rfl (by simp)
  have k1 : W6.cell? ⟨w5.heap.size, 1, none⟩ = some (.int .i64 2) := by rw [hW6]; exact cell_at (j := 1) rfl (by simp)
  have f06 := cell_grown f05 b6
  have f16 := cell_grown f15 b6
  have H6 : Hid (BdAt W6 p ge gs gg az [] [] [] ∧ Below w.heap.size w W6 ∧ (w.heap.size ≤ ge ∧ w.heap.size ≤ gs ∧ w.heap.size ≤ gg) ∧ VlIn W6 (.slice ua vs.length uc) vs) := ⟨hb.below b6, H5B.out.trans (b6.mono H5B.out.size), ⟨by omega, by omega, by omega⟩, (H4.out.2.1.below b5).below b6⟩
  have kl := cell_block k0
  have fl6 := cell_block f06
  clear hb b5 b6 l1 l2 l3 f0 f1 fl f05 f15 H4 wl
  go_upto_region 7 with fail
  rw [← hW6]
  clear hW6 H5B
  generalize hq5 : w5.heap.size = q5 at k0 k1 kl ⊢
  clear hq5
  have HS7 : Hid (∀ W, Below W6.heap.size W6 W → Calls Tryz.prog 18 #[.pointer (some ⟨p, 0, none⟩), .agg #[.int .i64 1, .int .i64 2], .string (cut a1 300)] W fun e w' => ∃ er, e = .returned er ∧ SubR er w' p ge gs gg az [] [] [] (1, 2) ∧ Kb W6 w' ge gs gg) := fun W hW => by
    have hB := H6.out.2.1.trans (hW.mono H6.out.2.1.size)
    refine (sub_r p ge gs gg az [] [] [] 1 2 _ W (H6.out.1.below hW) (HE.out.below hB HE.out.lt) (cut_size a1 300)).mono ?_
    rintro e w' ⟨er, he, h1, h2⟩
    exact ⟨er, he, h1, (Kb.ofBelow hW).trans h2⟩
  have HC1 : Hid (∀ W, Calls Tryz.prog 19 #[.string a1, .int .i64 300] W fun e w' => e = .returned (.string (cut a1 300)) ∧ w' = W) := fun W => cut_any a1 300 W HT.out.1
  go_cut [16] (fun v wx => Hid (SubR v wx p ge gs gg az [] [] [] (1, 2) ∧ Kb W6 wx ge gs gg))
  case first =>
    go_region_with (first
      | (go_at_call 19; refine Calls.mono (HC1.out _) ?_; rintro e w7 ⟨rfl, hw7⟩; subst w7)
      | (go_at_call 18; refine Calls.mono (HS7.out _ (by exact ⟨rfl, rfl, rfl, Nat.le_refl _, fun _ _ => rfl⟩)) ?_; rintro e w7 ⟨er, rfl, h7⟩
         have H7 : Hid (SubR er w7 p ge gs gg az [] [] [] (1, 2) ∧ Kb W6 w7 ge gs gg) := h7
         clear h7))
    all_goals
      go_wp2_with fail
      go_meet
      exact H7
  case rest =>
    rename World => X1
    have HX : Hid (SubR u16 X1 p ge gs gg az [] [] [] (1, 2) ∧ Kb W6 X1 ge gs gg) := hcut
    clear hcut HS7 HC1
    obtain ⟨er1, her1⟩ : ∃ er1, er1 = u16 := ⟨_, rfl⟩
    rw [← her1] at HX ⊢
    clear her1
    have HU : Hid (∃ U, U.length ≤ 1 ∧ BdAt X1 p ge gs gg az [] U [] ∧ ((U = [] ∧ ∃ N, er1 = .iface 170 (.pointer (some ⟨N, 0, none⟩))) ∨ (er1 = .nilIface ∧ ∃ y ∈ U, y.key = (1, 2)))) := by
      rcases HX.out.1 with ⟨x, hx, _, he, hb⟩ | ⟨hb, ⟨⟨y, hy, _⟩, _⟩ | ⟨N, he, _⟩⟩
      · exact ⟨[x], by simp, hb, .inr ⟨he, x, by simp, hx⟩⟩
      · simp at hy
      · exact ⟨[], by simp, hb, .inl ⟨rfl, N, he⟩⟩
    obtain ⟨U, hUl, hUb, hUe⟩ := HU.out
    have KX := HX.out.2
    have KC := H6.out.1.kc KX
    have BX := KX.below H6.out.2.2.1.1 H6.out.2.2.1.2.1 H6.out.2.2.1.2.2 H6.out.2.1.size
    have k01 := KC.at k0
    have k11 := KC.at k1
    have f07 := KC.at f06
    have f17 := KC.at f16
    have kl1 := cell_block k01
    have fl7 := cell_block f07
    have H7 : Hid (BdAt X1 p ge gs gg az [] U [] ∧ Below w.heap.size w X1 ∧ (w.heap.size ≤ ge ∧ w.heap.size ≤ gs ∧ w.heap.size ≤ gg) ∧ VlIn X1 (.slice ua vs.length uc) vs) := ⟨hUb, H6.out.2.1.trans BX, H6.out.2.2.1, H6.out.2.2.2.kc KC⟩
    have HUE : Hid (U.length ≤ 1 ∧ ((U = [] ∧ ∃ N, er1 = .iface 170 (.pointer (some ⟨N, 0, none⟩))) ∨ (er1 = .nilIface ∧ ∃ y ∈ U, y.key = (1, 2)))) := ⟨hUl, hUe⟩
    clear HX HU hUl hUb hUe KX KC BX k0 k1 f06 f16 kl fl6 H6
    have HS8 : Hid (∀ W, Below X1.heap.size X1 W → Calls Tryz.prog 18 #[.pointer (some ⟨p, 0, none⟩), .agg #[.int .i64 1, .int .i64 2], .string (cut a2 300)] W fun e w' => ∃ er, e = .returned er ∧ SubR er w' p ge gs gg az [] U [] (1, 2) ∧ Kb X1 w' ge gs gg) := fun W hW => by
      have hB := H7.out.2.1.trans (hW.mono H7.out.2.1.size)
      refine (sub_r p ge gs gg az [] U [] 1 2 _ W (H7.out.1.below hW) (HE.out.below hB HE.out.lt) (cut_size a2 300)).mono ?_
      rintro e w' ⟨er, he, h1, h2⟩
      exact ⟨er, he, h1, (Kb.ofBelow hW).trans h2⟩
    have HC2 : Hid (∀ W, Calls Tryz.prog 19 #[.string a2, .int .i64 300] W fun e w' => e = .returned (.string (cut a2 300)) ∧ w' = W) := fun W => cut_any a2 300 W HT.out.2
    go_upto_region 8 with fail
    go_cut [17] (fun v wx => Hid (SubR v wx p ge gs gg az [] U [] (1, 2) ∧ Kb X1 wx ge gs gg))
    case first =>
      go_region_with (first
        | (go_at_call 19; refine Calls.mono (HC2.out _) ?_; rintro e w7 ⟨rfl, hw7⟩; subst w7)
        | (go_at_call 18; refine Calls.mono (HS8.out _ (by exact ⟨rfl, rfl, rfl, Nat.le_refl _, fun _ _ => rfl⟩)) ?_; rintro e w7 ⟨er, rfl, h7⟩
           have H9 : Hid (SubR er w7 p ge gs gg az [] U [] (1, 2) ∧ Kb X1 w7 ge gs gg) := h7
           clear h7))
      all_goals
        go_wp2_with fail
        go_meet
        exact H9
    case rest =>
      rename World => X2
      have HX : Hid (SubR u17 X2 p ge gs gg az [] U [] (1, 2) ∧ Kb X1 X2 ge gs gg) := hcut
      clear hcut HS8 HC2
      obtain ⟨er2, her2⟩ : ∃ er2, er2 = u17 := ⟨_, rfl⟩
      rw [← her2] at HX ⊢
      clear her2
      have KX := HX.out.2
      have KC := H7.out.1.kc KX
      have BX := KX.below H7.out.2.2.1.1 H7.out.2.2.1.2.1 H7.out.2.2.1.2.2 H7.out.2.1.size
      have f08 := KC.at f07
      have f18 := KC.at f17
      have fl8 := cell_block f08
      have HD : Hid ((∃ N, er1 = .iface 170 (.pointer (some ⟨N, 0, none⟩))) ∨ (er1 = .nilIface ∧ (er2 = .iface 36 (.int .i64 5) ∨ ∃ N, er2 = .iface 170 (.pointer (some ⟨N, 0, none⟩)) ∧ (FaultIn X2 N ∨ ∃ pl, FaultAt X2 N pl 2)))) := by
        rcases HUE.out.2 with ⟨_, hN⟩ | ⟨he, y, hy, hk⟩
        · exact .inl hN
        · refine .inr ⟨he, ?_⟩
          rcases HX.out.1 with ⟨x, _, hno, _, _⟩ | ⟨_, ⟨_, h5⟩ | h3⟩
          · exact absurd hk (hno y hy)
          · exact .inl h5
          · exact .inr h3
      have HV : Hid (∃ V, V.length ≤ 1 ∧ BdAt X2 p ge gs gg az [] V []) := by
        rcases HX.out.1 with ⟨x, hx, hno, _, hb⟩ | ⟨hb, _⟩
        · rcases HUE.out.2 with ⟨hU, _⟩ | ⟨_, y, hy, hk⟩
          · exact ⟨U ++ [x], by rw [hU]; simp, hb⟩
          · exact absurd hk (hno y hy)
        · exact ⟨U, HUE.out.1, hb⟩
      obtain ⟨V, hVl, hVb⟩ := HV.out
      have HVL : Hid (V.length ≤ 1) := hVl
      have H8 : Hid (BdAt X2 p ge gs gg az [] V [] ∧ Below w.heap.size w X2 ∧ (w.heap.size ≤ ge ∧ w.heap.size ≤ gs ∧ w.heap.size ≤ gg) ∧ VlIn X2 (.slice ua vs.length uc) vs) := ⟨hVb, H7.out.2.1.trans BX, H7.out.2.2.1, H7.out.2.2.2.kc KC⟩
      clear HX HV hVl hVb KX KC BX k01 k11 f07 f17 kl1 fl7 H7 HUE
      go_upto_region 9 with fail
      go_cut [87] (fun v wx => wx = X2 ∧ v = .bool false)
      case first =>
        have c53 : ((5 : Int) == 5) = true := rfl
        rcases HD.out with ⟨N, rfl⟩ | ⟨rfl, rfl | ⟨N, rfl, hF | ⟨pl, hF⟩⟩⟩
        · go_wp2_with fail
          go_meet
          exact ⟨rfl, rfl⟩
        · go_wp2_with fail
          refine (is_cd 5 5 _).mono ?_
          rintro e w9 ⟨rfl, rfl⟩
          go_wp2_with fail
          go_meet
          exact ⟨rfl, rfl⟩
        · have h5 := is_fin N 5 _ hF
          have h2 := is_fin N 2 _ hF
          have h3 := is_fin N 3 _ hF
          have HH : Hid (Calls Tryz.prog 12 #[.iface 170 (.pointer (some ⟨N, 0, none⟩)), .iface 36 (.int .i64 5)] X2 (fun e w' => e = .returned (.bool false) ∧ w' = X2) ∧ Calls Tryz.prog 12 #[.iface 170 (.pointer (some ⟨N, 0, none⟩)), .iface 36 (.int .i64 2)] X2 (fun e w' => e = .returned (.bool false) ∧ w' = X2) ∧ Calls Tryz.prog 12 #[.iface 170 (.pointer (some ⟨N, 0, none⟩)), .iface 36 (.int .i64 3)] X2 (fun e w' => e = .returned (.bool true) ∧ w' = X2)) := ⟨h5, h2, h3⟩
          clear h5 h2 h3 hF
          go_wp2_with fail
          refine Calls.mono HH.out.1 ?_
          rintro e w9 ⟨rfl, hw⟩
          subst w9
          go_wp2_with fail
          refine Calls.mono HH.out.2.1 ?_
          rintro e w9 ⟨rfl, hw⟩
          subst w9
          go_wp2_with fail
          refine Calls.mono HH.out.2.2 ?_
          rintro e w9 ⟨rfl, hw⟩
          subst w9
          go_wp2_with fail
          go_meet
          exact ⟨rfl, rfl⟩
        · have h5 := is_fl2 N 2 5 _ pl _ hF
          have h2 := is_fl2 N 2 2 _ pl _ hF
          have HH : Hid (Calls Tryz.prog 12 #[.iface 170 (.pointer (some ⟨N, 0, none⟩)), .iface 36 (.int .i64 5)] X2 (fun e w' => e = .returned (.bool false) ∧ w' = X2) ∧ Calls Tryz.prog 12 #[.iface 170 (.pointer (some ⟨N, 0, none⟩)), .iface 36 (.int .i64 2)] X2 (fun e w' => e = .returned (.bool true) ∧ w' = X2)) := ⟨h5, h2⟩
          clear h5 h2 hF
          go_wp2_with fail
          refine Calls.mono HH.out.1 ?_
          rintro e w9 ⟨rfl, hw⟩
          subst w9
          go_wp2_with fail
          refine Calls.mono HH.out.2 ?_
          rintro e w9 ⟨rfl, hw⟩
          subst w9
          go_wp2_with fail
          go_meet
          exact ⟨rfl, rfl⟩
      case rest =>
        obtain ⟨rfl, rfl⟩ := hcut
        clear HD
        rename World => X3
        go_wp2_with fail
        refine (bpub_any p ge gs gg az [] V [] 1 1 _ vs pay _ H8.out.1 H8.out.2.2.2 HVZ.out.1 HVZ.out.2.1 HVZ.out.2.2).mono ?_
        rintro e w9 ⟨hP, k9⟩
        have K9 := H8.out.1.kc k9
        have B9 : Hid (Below w.heap.size w w9) := H8.out.2.1.trans (k9.below H8.out.2.2.1.1 H8.out.2.2.1.2.1 H8.out.2.2.1.2.2 H8.out.2.1.size)
        rcases hP with ⟨_, N, rfl, _⟩ | ⟨_, ⟨y, hy, _⟩, _⟩ | ⟨hok, _, rfl, hb⟩
        · clear k9 K9 H8 f08 f18 fl8
          go_wp2_with fail
          refine (awake18_any _ (HE.out.below B9.out HE.out.lt)).mono ?_
          rintro e w10 ⟨rfl, b10⟩
          have B10 : Hid (Below w.heap.size w w10) := B9.out.trans (b10.mono B9.out.size)
          clear b10
          go_wp2
          go_ret
          exact ⟨rfl, B10.out⟩
        · simp at hy
        have HOK : Hid (EventOk az vs pay.size) := hok
        have f09 := K9.at f08
        have f19 := K9.at f18
        have fl9 := cell_block f09
        have H9 : Hid (BdAt w9 p ge gs gg az [⟨(1, 1), vs, pay⟩] V [] ∧ (w.heap.size ≤ ge ∧ w.heap.size ≤ gs ∧ w.heap.size ≤ gg) ∧ VlIn w9 (.slice ua vs.length uc) vs) := ⟨hb, H8.out.2.2.1, H8.out.2.2.2.kc K9⟩
        clear k9 K9 H8 f08 f18 fl8 hok hb
        go_wp2_with fail
        refine (bdue_any p ge gs gg az [⟨(1, 1), vs, pay⟩] V [] 1 1 _ H9.out.1 (by have := HVL.out; omega)).mono ?_
        rintro e w10 ⟨hD, b10⟩
        rcases hD with ⟨hn, _⟩ | ⟨y, hy, _, v, L, rfl, hL, hW⟩
        · exact absurd rfl (hn ⟨(1, 1), vs, pay⟩ (by simp))
        have hy2 : y = ⟨(1, 1), vs, pay⟩ := by simpa using hy
        subst hy2
        obtain ⟨ta, tc, rfl, _⟩ := hW.shape
        have HL : Hid (DueL V (DueK az [] (1, 1) ⟨(1, 1), vs, pay⟩) L ∧ L.length ≤ 1) := ⟨hL, due_one HVL.out hL⟩
        have f010 := cell_grown f09 b10
        have f110 := cell_grown f19 b10
        have fl10 := cell_block f010
        have H10 : Hid (BdAt w10 p ge gs gg az [⟨(1, 1), vs, pay⟩] V [] ∧ Below w.heap.size w w10 ∧ (w.heap.size ≤ ge ∧ w.heap.size ≤ gs ∧ w.heap.size ≤ gg) ∧ VlIn w10 (.slice ua vs.length uc) vs) := ⟨H9.out.1.below b10, B9.out.trans (b10.mono B9.out.size), H9.out.2.1, H9.out.2.2.below b10⟩
        clear hy hL hW b10 f09 f19 fl9 H9 B9
        go_wp2_with fail
        refine (bpub_any p ge gs gg az [⟨(1, 1), vs, pay⟩] V [] 1 1 _ vs pay _ H10.out.1 H10.out.2.2.2 HVZ.out.1 HVZ.out.2.1 HVZ.out.2.2).mono ?_
        rintro e w11 ⟨hP, k11⟩
        have B11 : Hid (Below w.heap.size w w11) := H10.out.2.1.trans (k11.below H10.out.2.2.1.1 H10.out.2.2.1.2.1 H10.out.2.2.1.2.2 H10.out.2.1.size)
        rcases hP with ⟨hn, _⟩ | ⟨_, _, rfl, hb⟩ | ⟨_, hn, _⟩
        · exact absurd HOK.out hn
        rotate_left
        · exact absurd rfl (hn ⟨(1, 1), vs, pay⟩ (by simp))
        have HB11 : Hid (BdAt w11 p ge gs gg az [⟨(1, 1), vs, pay⟩] V []) := hb
        clear hb k11 H10 f010 f110 fl10
        go_wp2_with fail
        refine (bdue_any p ge gs gg az [⟨(1, 1), vs, pay⟩] V [] 1 1 _ HB11.out (by have := HVL.out; omega)).mono ?_
        rintro e w12 ⟨hD, b12⟩
        rcases hD with ⟨hn, _⟩ | ⟨y, hy, _, v, M, rfl, hL, hW⟩
        · exact absurd rfl (hn ⟨(1, 1), vs, pay⟩ (by simp))
        have hy2 : y = ⟨(1, 1), vs, pay⟩ := by simpa using hy
        subst hy2
        obtain ⟨tb, td, rfl, _⟩ := hW.shape
        obtain rfl : M = L := hL.uniq HL.out.1
        have B12 : Hid (Below w.heap.size w w12) := B11.out.trans (b12.mono B11.out.size)
        have hl1 : M.length ≤ 1 := HL.out.2
        generalize M.length = nl at hl1 ⊢
        have hlI : (nl : Int) ≤ 1 := by omega
        have hll : ((nl : Int) == (nl : Int)) = true := by simp
        clear hy hL hW b12 HB11 B11 HL
        go_wp2_with fail
        refine (awake18_any _ (HE.out.below B12.out HE.out.lt)).mono ?_
        rintro e w13 ⟨rfl, b13⟩
        have B13 : Hid (Below w.heap.size w w13) := B12.out.trans (b13.mono B12.out.size)
        clear b13 B12
        go_wp2_with fail
        refine (is_cd 5 5 _).mono ?_
        rintro e w14 ⟨rfl, hw⟩
        subst w14
        go_wp2
        go_ret
        exact ⟨rfl, B13.out⟩

/-! ### The row's step -/
set_option maxRecDepth 100000 in
set_option maxHeartbeats 8000000 in
theorem lifted (os : Os) (started : os.Started) (H : Type) (enc : TypeId × Value → H) :
    ReturnsInHanded {} Tryz.checked os 7 .any (fun w args => (Rows.boardAgainSpec.pre enc Tryz.prog Tryz.f7 [] false w args ∧ laidMetH Tryz.prog Rows.boardAgainRow.laid w) ∧ sizedMet enc Tryz.prog Tryz.f7 (OpenSpec.ofChange Rows.boardAgainSpec) false w args) (Rows.boardAgainSpec.post enc Tryz.prog Tryz.f7 false true false false) := by
  refine returnsInHanded_of_change_and (C := Tryz.checked) (X := fun w _ => laidMetH Tryz.prog Rows.boardAgainRow.laid w) (fun _ _ _ hh h => h.of_heap hh) own started (by kernel_rfl) Tryz.func7
    (ChangeSpec.witness_at (enc := enc) (C := Tryz.checked) (os := os) (X := fun w _ => laidMetH Tryz.prog Rows.boardAgainRow.laid w) false ({ World.holding Tryz.prog os ⟨#[], #[], []⟩ with heap := witHeap5 (World.holding Tryz.prog os ⟨#[], #[], []⟩).heap }) #[.slice none 0 0, .string ByteArray.empty, .string ByteArray.empty, .agg #[.slice none 0 0, .string ByteArray.empty]] 8 rfl (by kernel_rfl) (by kernel_rfl) (by kernel_rfl) (by kernel_rfl) (by kernel_rfl) (laidMetH_of_parts (laidMet_of_run' 8 (by kernel_rfl) (by kernel_rfl)) (by kernel_rfl))) ?_
  intro W base args ds gs before hval0 hW _ _ hL _
  have hval : ∀ (j : Nat) t v, Tryz.f7.params[j]? = some t → args[j]? = some v → Value.okWide Tryz.prog W .any base t v := hval0
  have hW' := hW
  obtain ⟨p, q, hA0, hV, rfl, hfz, hnd⟩ := hW
  have hA : DataW.TrodAll enc Tryz.prog W 0 (fun _ => true) true Tryz.f7.params.toList args.toList ds p := hA0
  rw [Tryz.params7] at hA hval
  obtain ⟨v0, vs0, d0, ds0, p0, q0, hargs, rfl, rfl, h0, r0⟩ := trodAll_cons hA
  obtain ⟨v1, vs1, d1, ds1, p1, q1, rfl, rfl, rfl, h1, r1⟩ := trodAll_cons r0
  obtain ⟨v2, vs2, d2, ds2, p2, q2, rfl, rfl, rfl, h2, r2⟩ := trodAll_cons r1
  obtain ⟨v3, vs3, d3, ds3, p3, q3, rfl, rfl, rfl, h3, r3⟩ := trodAll_cons r2
  obtain ⟨rfl, rfl, rfl⟩ := trodAll_nil r3
  obtain rfl : args = #[v0, v1, v2, v3] := by cases args; simp_all
  obtain ⟨rfl, rfl⟩ := trodVars_none hV
  obtain ⟨a0, len0, cap0, rfl⟩ := okWide_slice Tryz.underlying23 (hval 0 23 v0 rfl rfl)
  have k0 := h0
  have lt0 : ∀ x ∈ p0, x.block < W.heap.size := by obtain ⟨m, hm⟩ := k0; exact DataW.trod_lt m _ _ _ hm
  obtain ⟨t0, w0⟩ : ∃ ts, InRow 4 At.cells At.ok at0 W a0 len0 ts := by
    obtain ⟨fuel, hf⟩ := h0
    exact inrow_of 4 At.cells At.ok at0 23 78 Tryz.underlying23 cellsAt (by omega) At.cells_len (fun n cs x => at_of n cs x) hf
  obtain ⟨a1, rfl, rfl, rfl, w1⟩ := open_string Tryz.underlying9 (hval 1 9 v1 rfl rfl) h1
  obtain ⟨a2, rfl, rfl, rfl, w2⟩ := open_string Tryz.underlying9 (hval 2 9 v2 rfl rfl) h2
  obtain ⟨cs3, rfl, hcs3⟩ := okWide_struct Tryz.underlying44 (hval 3 44 v3 rfl rfl)
  have k3 := h3
  have lt3 : ∀ x ∈ p3, x.block < W.heap.size := by obtain ⟨m, hm⟩ := k3; exact DataW.trod_lt m _ _ _ hm
  obtain ⟨fuel3, hf3⟩ := h3
  obtain ⟨a3, len3, cap3, t3, s3, rfl, w3, z3⟩ := ev_of hcs3 hf3
  clear hA0 hval0
  have hE := genv_of_laid5 hL
  refine (walk a0 len0 cap0 t0 a1 a2 a3 len3 cap3 t3 s3 W hE w0 w1 w2 w3 z3).mono fun e W' ⟨he, bel⟩ => ?_
  subst he
  exact ⟨_, rfl, _, _, _, [], _, [], hW', trodAll_mk1 (shut_bool Tryz.underlying4 _), (trodAll_cons_mk (Below.trod laidOut (by kernel_rfl) (of_decide_eq_true (by kernel_rfl)) k0 bel lt0) (trodAll_cons_mk (shut_string Tryz.underlying9 w1) (trodAll_cons_mk (shut_string Tryz.underlying9 w2) (trodAll_cons_mk (Below.trod laidOut (by kernel_rfl) (of_decide_eq_true (by kernel_rfl)) k3 bel lt3) trodAll_mk0)))), rfl, bel.frame _, fun h => by cases h⟩

theorem over : Rows.boardAgainRow.holds Tryz.pinned (OpenSpec.ofChange Rows.boardAgainSpec) :=
  OpenClaim.holds_of_wide 7 Tryz.f7 rfl rfl rfl rfl rfl rfl rfl ⟨rfl, rfl, rfl, rfl, rfl⟩ rfl rfl rfl rfl rfl (by kernel_rfl) Tryz.func7 (by kernel_rfl)
    (of_decide_eq_true (by kernel_rfl)) (by unfold Func.isWrapper; first | (rw [if_pos (by decide +kernel)]; kernel_rfl) | (rw [if_neg (by decide +kernel)]; exact ⟨rfl, rfl⟩))
    (fun os started H enc _ => lifted os started H enc)

theorem card : Rows.BoardAgainCardSaid :=
  Claim7.holds_tied_plain_at .later [] [.data, .data, .data, .sentinel, .sentinel] true (true, "3b18eb4a88fe0e2378604c7570027d279f48bf23d280480b73b93681c3449119") true
    over (fun _ h => by cases h) (by kernel_rfl) (fun _ h => by cases h) boardAgain_row_tie rfl ⟨rfl, rfl⟩ (by kernel_rfl) rfl
    (fun f fn hf hfn => by
      obtain rfl : f = 7 := Option.some.inj ((show Tryz.prog.funcNamed "wigwag/wigwaglaw18.BoardAgain" = some 7 by kernel_rfl).symm.trans hf) |>.symm
      obtain rfl : fn = Tryz.f7 := (Option.some.inj (Tryz.func7.symm.trans hfn)).symm
      exact ⟨by kernel_rfl, fun j t ht => by
        rw [Tryz.params7] at ht
        have hall : ∀ t ∈ ([23, 9, 9, 44] : List TypeId), Tryz.prog.wantsStandIn t = false := by
          intro t ht
          simp only [List.mem_cons, List.not_mem_nil, or_false] at ht
          rcases ht with rfl | rfl | rfl | rfl <;> kernel_rfl
        exact hall t (by simpa using List.mem_of_getElem? (l := ([23, 9, 9, 44] : List TypeId)) (i := j) (by simpa using ht))⟩)
    (by kernel_rfl)

end Go.Proofs.YtpepbhmdfjpblaaGreatDoor.boardAgain

namespace Go.Proofs.YtpepbhmdfjpblaaGreatDoor
/-- Proved: for every schema, two texts and an event, BoardAgain answers true (who stands there, or is published, isn't again; what is refused changes nothing), the library's variables being laid as the program's text lays them (the card's tie). -/
theorem boardAgain_holds : Rows.BoardAgainCardSaid := boardAgain.card
#print axioms boardAgain_holds
end Go.Proofs.YtpepbhmdfjpblaaGreatDoor
