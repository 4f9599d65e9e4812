/- board.New, Publish. -/
import Derived.Test.YtpepbhmdfjpblaaGreatDoorBkBase
import Derived.Test.YtpepbhmdfjpblaaGreatDoorBkClone
import Derived.Test.YtpepbhmdfjpblaaGreatDoorJoinFilAwake
import Derived.Deep.RegionHeld3
import Derived.Test.YtpepbhmdfjpblaaGreatDoorShelfC
import Derived.LoopN
import Derived.Deep.QuietTactic
import Derived.BigQuiet
import Derived.Test.YtpepbhmdfjpblaaGreatDoorOwnSrc2
import Derived.Test.YtpepbhmdfjpblaaGreatDoorFilIs
import Derived.Test.YtpepbhmdfjpblaaGreatDoorValAwake
import Derived.Deep.CutBlock
import Derived.Deep.DeepCutAuto
import Derived.Deep.LoopGhost
import Derived.Test.YtpepbhmdfjpblaaGreatDoorFilMark2
import Derived.Test.YtpepbhmdfjpblaaGreatDoorTie
import Derived.Test.YtpepbhmdfjpblaaGreatDoorCards
import Derived.LaidLaws
import Derived.LaidHandle
import Derived.LaidSub
import Derived.Lib.LaidTab
import Derived.Stop.Joined
set_option linter.unnecessarySimpa false
namespace Go.Proofs.YtpepbhmdfjpblaaGreatDoor
open Go.ChangeShapes Go.WideShapes Go.ChangeAt Go.RowKit Go.Deep
open Go.ChangeMaps (setBlock)
set_option linter.unusedVariables false

/-- A fault of package value lies in block N: ErrSchema. -/
def SchF (w : World) (N : Nat) : Prop := ∃ n : Int, w.heap[N]? = some (.cells #[.string ⟨#[118, 97, 108, 117, 101]⟩, .int .i64 n, .iface 36 (.int .i64 3)] 172 (0, 0))
theorem SchF.below {w w' : World} {N : Nat} (h : SchF w N) (hb : Below w.heap.size w w') : SchF w' N := by
  obtain ⟨n, h⟩ := h
  exact ⟨n, (hb.block N (lt_of_block h)).trans h⟩
theorem ErrIf.no {e : Ending} {w : World} {P : Prop} (h : ErrIf e w P) (hp : ¬ P) : ∃ b, e = .returned (.iface 170 (.pointer (some ⟨b, 0, none⟩))) ∧ SchF w b := by
  rcases h with ⟨_, hn⟩ | ⟨b, n, rfl, _, hb⟩
  · exact absurd hn hp
  · exact ⟨b, rfl, n, hb⟩
theorem b_one (w : World) (o : Obj) : Below w.heap.size w (w.alloc o) := (Below.refl _ _).alloc (Nat.le_refl _) o
theorem b_drew (w : World) : Below w.heap.size w w.drew := ⟨rfl, rfl, rfl, Nat.le_refl _, fun _ _ => rfl⟩
/-- A board that is new. -/
theorem BdAt.made {w : World} {sv : Value} {az : List At} (h : AtIn w sv az) (hok : SchemaOk az) :
    BdAt ((((w.alloc (.map #[] 0)).alloc (.map #[] 0)).alloc (.map #[] 0)).alloc (.cells #[sv, .map (some w.heap.size), .map (some (w.heap.size + 1)), .map (some (w.heap.size + 2))] 86)) (w.heap.size + 3) w.heap.size (w.heap.size + 1) (w.heap.size + 2) az [] [] [] := by
  have s1 : (w.alloc (.map #[] 0)).heap.size = w.heap.size + 1 := by simp
  have s2 : ((w.alloc (.map #[] 0)).alloc (.map #[] 0)).heap.size = w.heap.size + 2 := by simp
  have s3 : (((w.alloc (.map #[] 0)).alloc (.map #[] 0)).alloc (.map #[] 0)).heap.size = w.heap.size + 3 := by simp
  have b : ∀ (v : World) (o : Obj), Below v.heap.size v (v.alloc o) := b_one
  have b12 := b (w.alloc (.map #[] 0)) (.map #[] 0)
  have b23 := b ((w.alloc (.map #[] 0)).alloc (.map #[] 0)) (.map #[] 0)
  have b34 := b (((w.alloc (.map #[] 0)).alloc (.map #[] 0)).alloc (.map #[] 0)) (.cells #[sv, .map (some w.heap.size), .map (some (w.heap.size + 1)), .map (some (w.heap.size + 2))] 86)
  have hb : Below w.heap.size w ((((w.alloc (.map #[] 0)).alloc (.map #[] 0)).alloc (.map #[] 0)).alloc (.cells #[sv, .map (some w.heap.size), .map (some (w.heap.size + 1)), .map (some (w.heap.size + 2))] 86)) :=
    (((b w _).trans (b12.mono (by omega))).trans (b23.mono (by omega))).trans (b34.mono (by omega))
  have m1 : MpK kv2 (w.alloc (.map #[] 0)) w.heap.size ([] : List ((Int × Int) × Value)) := MpK.made w
  have m2 : MpK kv2 ((w.alloc (.map #[] 0)).alloc (.map #[] 0)) (w.heap.size + 1) ([] : List ((Int × Int) × Value)) := by rw [← s1]; exact MpK.made _
  have m3 : MpK kv4 (((w.alloc (.map #[] 0)).alloc (.map #[] 0)).alloc (.map #[] 0)) (w.heap.size + 2) ([] : List (Bgf × Value)) := by rw [← s2]; exact MpK.made _
  refine ⟨⟨sv, ?_, h.below hb⟩, by omega, by omega, by omega, ⟨[], ?_, trivial⟩, ⟨[], ?_, trivial⟩, ?_, hok, fun e he => (by cases he), fun e he => (by cases he)⟩
  · have := heap_alloc_new (((w.alloc (.map #[] 0)).alloc (.map #[] 0)).alloc (.map #[] 0)) (.cells #[sv, .map (some w.heap.size), .map (some (w.heap.size + 1)), .map (some (w.heap.size + 2))] 86)
    rw [s3] at this; exact this
  · exact ((m1.of_block (b12.block _ (by omega))).of_block (b23.block _ (by omega))).of_block (b34.block _ (by omega))
  · exact (m2.of_block (b23.block _ (by omega))).of_block (b34.block _ (by omega))
  · exact m3.of_block (b34.block _ (by omega))
/-- What New answers. -/
def BNew (e : Ending) (w w' : World) (az : List At) : Prop :=
  (SchemaOk az ∧ ∃ p ge gs gg, e = .returned (.tuple #[.pointer (some ⟨p, 0, none⟩), .nilIface]) ∧ BdAt w' p ge gs gg az [] [] [] ∧ w.heap.size ≤ p ∧ w.heap.size ≤ ge ∧ w.heap.size ≤ gs ∧ w.heap.size ≤ gg) ∨
  (¬ SchemaOk az ∧ ∃ b, e = .returned (.tuple #[.pointer none, .iface 170 (.pointer (some ⟨b, 0, none⟩))]) ∧ SchF w' b)

set_option maxRecDepth 100000 in
set_option maxHeartbeats 2000000 in
theorem bnew_any (v : Value) (az : List At) (w : World) (h : AtIn w v az) (hl : az.length ≤ 1000) (hz : ∀ i, i < az.length → (az.getD i at0).name.size ≤ maxLen) :
    Calls Tryz.prog 9 #[v] w fun e w' => BNew e w w' az ∧ Below w.heap.size w w' := by
  have hmm := @run_makeMap Tryz.prog
  have H : Hid (AtIn w v az ∧ az.length ≤ 1000 ∧ ∀ i, i < az.length → (az.getD i at0).name.size ≤ maxLen) := ⟨h, hl, hz⟩
  obtain ⟨a, c, rfl, _⟩ := h.shape
  clear h hz
  go_enter Tryz.func9, Tryz.ntmps9
  go_wp2_with fail
  refine (check_any _ az _ H.out.1 H.out.2.1 H.out.2.2).mono ?_
  rintro e w2 ⟨hE, b2⟩
  have B2 : Hid (Below w.heap.size w w2) := b2
  by_cases hok : SchemaOk az
  · obtain rfl := hE.t hok
    have HOK : Hid (SchemaOk az) := hok
    clear hE hok b2
    go_wp2_with fail
    refine (clone_at _ az _ (H.out.1.below B2.out) H.out.2.1).mono ?_
    rintro e w3 ⟨v', rfl, hv, b3⟩
    obtain ⟨a', c', rfl, _⟩ := hv.shape
    have hm := BdAt.made hv HOK.out
    have B3 : Hid (Below w.heap.size w w3) := B2.out.trans (b3.mono B2.out.size)
    have HM : Hid (BdAt ((((w3.alloc (.map #[] 0)).alloc (.map #[] 0)).alloc (.map #[] 0)).alloc (.cells #[.slice a' az.length c', .map (some w3.heap.size), .map (some (w3.heap.size + 1)), .map (some (w3.heap.size + 2))] 86)) (w3.heap.size + 3) w3.heap.size (w3.heap.size + 1) (w3.heap.size + 2) az [] [] [] ∧ Below w.heap.size w ((((w3.alloc (.map #[] 0)).alloc (.map #[] 0)).alloc (.map #[] 0)).alloc (.cells #[.slice a' az.length c', .map (some w3.heap.size), .map (some (w3.heap.size + 1)), .map (some (w3.heap.size + 2))] 86))) :=
      ⟨hm, B3.out.trans ((((Below.refl _ _).alloc B3.out.size _).alloc (by have := B3.out.size; simp; omega) _).alloc (by have := B3.out.size; simp; omega) _ |>.alloc (by have := B3.out.size; simp; omega) _)⟩
    clear hm hv b3
    go_wp2
    go_ret2
    have hs := B3.out.size
    exact ⟨.inl ⟨HOK.out, w3.heap.size + 3, w3.heap.size, w3.heap.size + 1, w3.heap.size + 2, by simp, HM.out.1, by omega, by omega, by omega, by omega⟩, HM.out.2⟩
  · obtain ⟨b, rfl, hF⟩ := hE.no hok
    have HF : Hid (SchF w2 b ∧ ¬ SchemaOk az) := ⟨hF, hok⟩
    clear hE hok hF b2
    go_wp2
    go_ret2
    exact ⟨.inr ⟨HF.out.2, b, rfl, HF.out.1⟩, B2.out⟩
/-- What Publish answers. -/
def BPub (e : Ending) (w w' : World) (p ge gs gg : Nat) (S : List At) (E : List Bev) (U : List Bsb) (G : List Bgf) (x : Bev) : Prop :=
  (¬ EventOk S x.vs x.pay.size ∧ ∃ b, e = .returned (.iface 170 (.pointer (some ⟨b, 0, none⟩))) ∧ SchF w' b ∧ BdAt w' p ge gs gg S E U G) ∨
  (EventOk S x.vs x.pay.size ∧ (∃ y ∈ E, y.key = x.key) ∧ e = .returned (.iface 36 (.int .i64 5)) ∧ BdAt w' p ge gs gg S E U G) ∨
  (EventOk S x.vs x.pay.size ∧ (∀ y ∈ E, y.key ≠ x.key) ∧ e = .returned .nilIface ∧ BdAt w' p ge gs gg S (E ++ [x]) U G)

set_option maxRecDepth 100000 in
set_option maxHeartbeats 4000000 in
theorem bpub_any (p ge gs gg : Nat) (S : List At) (E : List Bev) (U : List Bsb) (G : List Bgf) (pub seq : Int) (u : Value) (vs : List Vl) (pay : ByteArray) (w : World) (h : BdAt w p ge gs gg S E U G) (hu : VlIn w u vs) (hl : vs.length ≤ 1000) (hp : pay.size ≤ maxLen)
    (hz : ∀ i, i < vs.length → (vs.getD i vl0).str.size ≤ maxLen) :
    Calls Tryz.prog 21 #[.pointer (some ⟨p, 0, none⟩), .int .i64 pub, .int .i64 seq, .agg #[u, .string pay]] w fun e w' => BPub e w w' p ge gs gg S E U G ⟨(pub, seq), vs, pay⟩ ∧ Kb w w' ge gs gg := by
  obtain ⟨ua, uc, rfl, _⟩ := hu.shape
  obtain ⟨W1, hW1⟩ : ∃ W1, W1 = w.alloc (.cells #[.slice ua vs.length uc, .string pay] 44) := ⟨_, rfl⟩
  have b1 : Below w.heap.size w W1 := by rw [hW1]; exact b_one _ _
  have x0 : W1.cell? ⟨w.heap.size, 0, none⟩ = some (.slice ua vs.length uc) := by rw [hW1]; exact World.cell?_alloc_new ..
  have x1 : W1.cell? ⟨w.heap.size, 1, none⟩ = some (.string pay) := by rw [hW1]; simp
  have xl := cell_block x0
  obtain ⟨sa, sc, hsA, c0, c1, c2, c3, cl⟩ := (h.below b1).cells
  have H1 : Hid (BdAt W1 p ge gs gg S E U G ∧ VlIn W1 (.slice ua vs.length uc) vs ∧ vs.length ≤ 1000 ∧ pay.size ≤ maxLen ∧ (∀ i, i < vs.length → (vs.getD i vl0).str.size ≤ maxLen) ∧ Below w.heap.size w W1 ∧ AtIn W1 (.slice sa S.length sc) S) := ⟨h.below b1, hu.below b1, hl, hp, hz, b1, hsA⟩
  have hsl : S.length ≤ 1000 := by have := h.sok.2.1; omega
  clear h hu hz b1 hp hsA hl
  generalize hq : w.heap.size = q at x0 x1 xl
  have HEV : ∀ W, Below W1.heap.size W1 W → Calls Tryz.prog 43 #[.slice sa S.length sc, .agg #[.slice ua vs.length uc, .string pay]] W fun e w' => ErrIf e w' (EventOk S vs pay.size) ∧ Below W1.heap.size W1 w' := fun W hW => by
    refine (event_any _ _ S vs pay W (H1.out.2.2.2.2.2.2.below hW) (H1.out.2.1.below hW) hsl H1.out.2.2.1 H1.out.2.2.2.1 H1.out.2.2.2.2.1).mono ?_
    rintro e w' ⟨h1, h2⟩
    exact ⟨h1, hW.trans (h2.mono hW.size)⟩
  by_cases hok : EventOk S vs pay.size
  · have HE : Hid (∀ W, Below W1.heap.size W1 W → Calls Tryz.prog 43 #[.slice sa S.length sc, .agg #[.slice ua vs.length uc, .string pay]] W fun e w' => e = .returned .nilIface ∧ Below W1.heap.size W1 w') := fun W hW => (HEV W hW).mono (fun e w' z => ⟨z.1.t hok, z.2⟩)
    have HOK : Hid (EventOk S vs pay.size) := hok
    have HQ : Hid (w.heap.size = q) := hq
    clear HEV hok
    go_enter Tryz.func21, Tryz.ntmps21
    go_upto_region 1 with fail
    rw [← hW1]
    try rw [hq]
    clear hW1 hq
    go_cut [9] (fun v wx => v = .nilIface ∧ Hid (Below W1.heap.size W1 wx))
    case first =>
      go_region_held3 (fun W' => W'.cell? ⟨p, 0, none⟩ = some (.slice sa S.length sc) ∧ W'.cell? ⟨q, 0, none⟩ = some (.slice ua vs.length uc) ∧ W'.cell? ⟨q, 1, none⟩ = some (.string pay))
        (first
          | go_keep
          | assumption)
        ((go_at_call 43; refine Calls.mono (HE.out _ ?_) ?_; exact ⟨rfl, rfl, rfl, Nat.le_refl _, fun _ _ => rfl⟩; rintro e wV ⟨rfl, hV⟩
          have BV : Hid (Below W1.heap.size W1 wV) := hV
          have z0 := cell_grown c0 hV
          have z1 := cell_grown x0 hV
          have z2 := cell_grown x1 hV
          have zl := cell_block z0
          have zm := cell_block z1
          clear hV))
      all_goals
        go_wp2
        go_meet
        exact ⟨rfl, BV⟩
    case rest =>
      rename World => W2
      obtain ⟨rfl, HB2⟩ := hcut
      have y0 := cell_grown x0 HB2.out
      have y1 := cell_grown x1 HB2.out
      have yl := cell_block y0
      clear HE x0 x1 xl c0 c1 c2 c3 cl
      have H2 : Hid (BdAt W2 p ge gs gg S E U G ∧ VlIn W2 (.slice ua vs.length uc) vs ∧ Below w.heap.size w W2) := ⟨H1.out.1.below HB2.out, H1.out.2.1.below HB2.out, H1.out.2.2.2.2.2.1.trans (HB2.out.mono H1.out.2.2.2.2.2.1.size)⟩
      obtain ⟨sa2, sc2, _, c0, c1, c2, c3, cl⟩ := H2.out.1.cells
      rcases H2.out.1.ask_ev (pub, seq) with ⟨hno, hlk⟩ | ⟨y, u, hy, hk, hvy, hlk⟩
      · have HNO : Hid (∀ y ∈ E, y.key ≠ (pub, seq)) := hno
        have hlk2 := hlk W2 (Below.refl _ _)
        simp only at hlk2
        obtain ⟨W3, hW3⟩ : ∃ W3, W3 = W2.alloc (.cells #[.slice none 0 0, .string ByteArray.empty] 44) := ⟨_, rfl⟩
        have b3 : Below W2.heap.size W2 W3 := by rw [hW3]; exact b_one _ _
        have H3 : Hid (BdAt W3 p ge gs gg S E U G ∧ VlIn W3 (.slice ua vs.length uc) vs ∧ Below w.heap.size w W3) := ⟨H2.out.1.below b3, H2.out.2.1.below b3, H2.out.2.2.trans (b3.mono H2.out.2.2.size)⟩
        have d1 := cell_grown c1 b3
        have v0 := cell_grown y0 b3
        have v1 := cell_grown y1 b3
        have dl := cell_block d1
        have vl := cell_block v0
        clear hno hlk b3
        have HCL : Hid (∀ W, Below W3.heap.size W3 W → Calls Tryz.prog 44 #[.slice ua vs.length uc] W fun e w' => ∃ va vc w5, e = .returned (.slice va vs.length vc) ∧ (Instr.mapUpdate 82 (.map (some ge)) (.agg #[.int .i64 pub, .int .i64 seq]) (.agg #[.slice va vs.length vc, .string pay])).run Tryz.prog w' = .ok () w5 ∧ Below W3.heap.size W3 w' ∧ BdAt w5 p ge gs gg S (E ++ [⟨(pub, seq), vs, pay⟩]) U G ∧ Kb w w5 ge gs gg) := fun W hW => by
          refine (clone_vl _ vs W (H3.out.2.1.below hW) H1.out.2.2.1).mono ?_
          rintro e w' ⟨v', he, hv, b'⟩
          have bb := hW.trans (b'.mono hW.size)
          obtain ⟨w5, p1, p2, p3⟩ := (H3.out.1.below bb).put_ev (pub, seq) HNO.out hv HOK.out
          obtain ⟨a', c', rfl, _⟩ := hv.shape
          have b5 := H3.out.2.2.trans (bb.mono H3.out.2.2.size)
          exact ⟨_, _, w5, he, p1, bb, p2, (Kb.ofBelow b5).trans p3⟩
        go_upto_region 7 with fail
        rw [← hW3]
        clear hW3 hlk2
        go_region_law
          ((go_simp; go_at_call 44; refine Calls.mono (HCL.out _ (by exact ⟨rfl, rfl, rfl, Nat.le_refl _, fun _ _ => rfl⟩)) ?_; rintro e w4 ⟨va, vc, w5, rfl, hput, b4, h5, k5⟩
            have H5 : Hid (BdAt w5 p ge gs gg S (E ++ [⟨(pub, seq), vs, pay⟩]) U G ∧ Kb w w5 ge gs gg) := ⟨h5, k5⟩
            have e1 := cell_grown d1 b4
            have t0 := cell_grown v0 b4
            have t1 := cell_grown v1 b4
            have el := cell_block e1
            have tl := cell_block t0
            clear h5 k5 b4))
        all_goals
          go_wp2
          go_ret
          exact ⟨.inr (.inr ⟨HOK.out, HNO.out, rfl, H5.out.1⟩), H5.out.2⟩
      · have HY : Hid (∃ y ∈ E, y.key = (pub, seq)) := ⟨y, hy, hk⟩
        have hlk2 := hlk W2 (Below.refl _ _)
        simp only at hlk2
        obtain ⟨ya, yc, rfl, _⟩ := hvy.shape
        clear hlk hy hk hvy
        generalize y.pay = yp at hlk2
        generalize y.vs.length = yn at hlk2
        go_wp2
        go_ret
        have b3 := b_one W2 (.cells #[.slice ya yn yc, .string yp] 44)
        exact ⟨.inr (.inl ⟨HOK.out, HY.out, rfl, H2.out.1.below b3⟩), Kb.ofBelow (H2.out.2.2.trans (b3.mono H2.out.2.2.size))⟩
  · have HE : Hid (∀ W, Below W1.heap.size W1 W → Calls Tryz.prog 43 #[.slice sa S.length sc, .agg #[.slice ua vs.length uc, .string pay]] W fun e w' => ∃ b, e = .returned (.iface 170 (.pointer (some ⟨b, 0, none⟩))) ∧ SchF w' b ∧ Below W1.heap.size W1 w') := fun W hW => (HEV W hW).mono (fun e w' z => by
      obtain ⟨b, h1, h2⟩ := z.1.no hok
      exact ⟨b, h1, h2, z.2⟩)
    have HOK : Hid (¬ EventOk S vs pay.size) := hok
    have HQ : Hid (w.heap.size = q) := hq
    clear HEV hok
    go_enter Tryz.func21, Tryz.ntmps21
    go_upto_region 1 with fail
    rw [← hW1]
    try rw [hq]
    clear hW1 hq
    go_region_held3 (fun W' => W'.cell? ⟨p, 0, none⟩ = some (.slice sa S.length sc) ∧ W'.cell? ⟨q, 0, none⟩ = some (.slice ua vs.length uc) ∧ W'.cell? ⟨q, 1, none⟩ = some (.string pay))
      (first
        | go_keep
        | assumption)
      ((go_at_call 43; refine Calls.mono (HE.out _ ?_) ?_; exact ⟨rfl, rfl, rfl, Nat.le_refl _, fun _ _ => rfl⟩; rintro e wV ⟨bb, rfl, hF, hV⟩
        have BV : Hid (Below W1.heap.size W1 wV ∧ SchF wV bb) := ⟨hV, hF⟩
        have z0 := cell_grown c0 hV
        have z1 := cell_grown x0 hV
        have z2 := cell_grown x1 hV
        have zl := cell_block z0
        have zm := cell_block z1
        clear hV hF))
    all_goals
      go_wp2
      go_ret
      exact ⟨.inl ⟨HOK.out, bb, rfl, BV.out.2, H1.out.1.below BV.out.1⟩, Kb.ofBelow (H1.out.2.2.2.2.2.1.trans (BV.out.1.mono H1.out.2.2.2.2.2.1.size))⟩
end Go.Proofs.YtpepbhmdfjpblaaGreatDoor

/- Subscribe, Unsubscribe, Same, has. -/
namespace Go.Proofs.YtpepbhmdfjpblaaGreatDoor
open Go.ChangeShapes Go.WideShapes Go.ChangeAt Go.RowKit Go.Deep
open Go.ChangeMaps (setBlock)
set_option linter.unusedVariables false

theorem b_drewa (w : World) (o : Obj) : Below w.heap.size w (w.drew.alloc o) := (b_drew w).trans (show Below w.heap.size w.drew (w.drew.alloc o) from b_one w.drew o)
/-- What Subscribe answers. -/
def BSub (e : Ending) (w' : World) (p ge gs gg : Nat) (S : List At) (E : List Bev) (U : List Bsb) (G : List Bgf) (x : Bsb) (cd pl : Int) : Prop :=
  (cd ≠ 0 ∧ (∃ N, e = .returned (.iface 170 (.pointer (some ⟨N, 0, none⟩))) ∧ FaultAt w' N pl cd) ∧ BdAt w' p ge gs gg S E U G) ∨
  (cd = 0 ∧ ¬ FilterOk S x.ps ∧ (∃ N, e = .returned (.iface 170 (.pointer (some ⟨N, 0, none⟩))) ∧ FaultIn w' N) ∧ BdAt w' p ge gs gg S E U G) ∨
  (cd = 0 ∧ FilterOk S x.ps ∧ (∃ y ∈ U, y.key = x.key) ∧ e = .returned (.iface 36 (.int .i64 5)) ∧ BdAt w' p ge gs gg S E U G) ∨
  (cd = 0 ∧ FilterOk S x.ps ∧ (∀ y ∈ U, y.key ≠ x.key) ∧ e = .returned .nilIface ∧ BdAt w' p ge gs gg S E (U ++ [x]) G)

set_option maxRecDepth 100000 in
set_option maxHeartbeats 4000000 in
theorem bsub_any (p ge gs gg : Nat) (S : List At) (E : List Bev) (U : List Bsb) (G : List Bgf) (nd id : Int) (s : ByteArray) (ps : List Pl) (cd pl : Int) (w : World) (h : BdAt w p ge gs gg S E U G) (hE : Env w) (hn : ps.length ≤ 1000) (hp : ∀ x ∈ ps, PrnL x) (hT : TwoQ s ps cd pl) :
    Calls Tryz.prog 18 #[.pointer (some ⟨p, 0, none⟩), .agg #[.int .i64 nd, .int .i64 id], .string s] w fun e w' => BSub e w' p ge gs gg S E U G ⟨(nd, id), ps.map pdOf⟩ cd pl ∧ Kb w w' ge gs gg := by
  obtain ⟨W1, hW1⟩ : ∃ W1, W1 = w.alloc (.cells #[.int .i64 nd, .int .i64 id] 56) := ⟨_, rfl⟩
  have b1 : Below w.heap.size w W1 := by rw [hW1]; exact b_one _ _
  have x0 : W1.cell? ⟨w.heap.size, 0, none⟩ = some (.int .i64 nd) := by rw [hW1]; exact World.cell?_alloc_new ..
  have x1 : W1.cell? ⟨w.heap.size, 1, none⟩ = some (.int .i64 id) := by rw [hW1]; simp
  have hsl : S.length ≤ 1000 := by have := h.sok.2.1; omega
  obtain ⟨sa, sc, hsA, c0, c1, c2, c3, cl⟩ := (h.below b1).cells
  have H1 : Hid (BdAt W1 p ge gs gg S E U G ∧ AtIn W1 (.slice sa S.length sc) S ∧ Env W1 ∧ Below w.heap.size w W1) := ⟨h.below b1, hsA, hE.below b1 hE.lt, b1⟩
  have HRD : Hid (∀ W, Below W1.heap.size W1 W → Calls Tryz.prog 42 #[.slice sa S.length sc, .string s] W fun e w' => ∃ u er, e = .returned (.tuple #[u, er]) ∧ ReadAns w' u er S ps cd pl ∧ Below W.heap.size W w') := fun W hW =>
    read_any _ S s ps cd pl W (H1.out.2.2.1.below hW H1.out.2.2.1.lt) (H1.out.2.1.below hW) hsl hn hp hT
  clear h hE hn hp hT b1 hsA
  generalize hq : w.heap.size = q at x0 x1
  have xl := cell_block x0
  go_enter Tryz.func18, Tryz.ntmps18
  go_upto_region 1 with fail
  rw [← hW1]
  try rw [hq]
  clear hW1 hq
  go_wp2_with fail
  refine Calls.mono (HRD.out _ (Below.refl _ _)) ?_
  rintro e w2 ⟨u, er, rfl, hR, b2⟩
  have y0 := cell_grown x0 b2
  have y1 := cell_grown x1 b2
  have yl := cell_block y0
  have H2 : Hid (BdAt w2 p ge gs gg S E U G ∧ Below w.heap.size w w2) := ⟨H1.out.1.below b2, H1.out.2.2.2.trans (b2.mono H1.out.2.2.2.size)⟩
  clear x0 x1 xl c0 c1 c2 c3 cl b2 HRD
  rcases hR with ⟨h0, rfl, N, rfl, hF⟩ | ⟨h0, hno, rfl, N, rfl, hF⟩ | ⟨h0, hok, rfl, hP⟩
  · have HF : Hid (cd ≠ 0 ∧ FaultAt w2 N pl cd) := ⟨h0, hF⟩
    clear h0 hF
    go_wp2
    go_ret
    exact ⟨.inl ⟨HF.out.1, ⟨N, rfl, HF.out.2⟩, H2.out.1⟩, Kb.ofBelow H2.out.2⟩
  · have HF : Hid (cd = 0 ∧ ¬ FilterOk S (ps.map pdOf) ∧ FaultIn w2 N) := ⟨h0, hno, hF⟩
    clear h0 hF hno
    go_wp2
    go_ret
    exact ⟨.inr (.inl ⟨HF.out.1, HF.out.2.1, ⟨N, rfl, HF.out.2.2⟩, H2.out.1⟩), Kb.ofBelow H2.out.2⟩
  · obtain ⟨fa, fc, rfl, _⟩ := hP.shape
    have HF : Hid (cd = 0 ∧ FilterOk S (ps.map pdOf) ∧ PdIn w2 (.slice fa ps.length fc) (ps.map pdOf)) := ⟨h0, hok, PdIn.ofPl hP⟩
    clear h0 hok hP
    obtain ⟨sa2, sc2, _, c0, c1, c2, c3, cl⟩ := H2.out.1.cells
    have HD : Hid (BdAt w2.drew p ge gs gg S E U G ∧ Below w.heap.size w w2.drew) := ⟨H2.out.1.drew, H2.out.2.trans ((b_drew w2).mono H2.out.2.size)⟩
    rcases H2.out.1.ask_sb (nd, id) with ⟨hno, hlk⟩ | ⟨y, ya, yc, hy, hk, _, hlk⟩
    · have hlk2 := hlk w2.drew (b_drew w2)
      simp only at hlk2
      have b2d : Below w2.heap.size w2 w2.drew.drew := (b_drew w2).trans (b_drew w2.drew)
      obtain ⟨w5, hput, p2, p3⟩ := (H2.out.1.below b2d).put_sb (nd, id) hno (HF.out.2.2.below b2d) HF.out.2.1
      simp only at hput
      have H5 : Hid ((∀ y ∈ U, y.key ≠ (nd, id)) ∧ BdAt w5 p ge gs gg S E (U ++ [⟨(nd, id), ps.map pdOf⟩]) G ∧ Kb w w5 ge gs gg) := ⟨hno, p2, (Kb.ofBelow (H2.out.2.trans (b2d.mono H2.out.2.size))).trans p3⟩
      clear hno hlk p2 p3 b2d
      go_wp2
      go_region
      go_wp2
      go_region
      go_wp2
      go_ret
      exact ⟨.inr (.inr (.inr ⟨HF.out.1, HF.out.2.1, H5.out.1, rfl, H5.out.2.1⟩)), H5.out.2.2⟩
    · have hlk2 := hlk w2.drew (b_drew w2)
      simp only at hlk2
      have HY : Hid (∃ y ∈ U, y.key = (nd, id)) := ⟨y, hy, hk⟩
      clear hlk hy hk
      generalize y.ps.length = yn at hlk2
      go_wp2
      go_region
      go_wp2
      go_ret
      exact ⟨.inr (.inr (.inl ⟨HF.out.1, HF.out.2.1, HY.out, rfl, HD.out.1⟩)), Kb.ofBelow HD.out.2⟩

/-- What Unsubscribe answers. -/
def BUns (e : Ending) (w' : World) (p ge gs gg : Nat) (S : List At) (E : List Bev) (U : List Bsb) (G : List Bgf) (k : Int × Int) : Prop :=
  ((∀ y ∈ U, y.key ≠ k) ∧ e = .returned (.iface 36 (.int .i64 9)) ∧ BdAt w' p ge gs gg S E U G) ∨
  ((∃ y ∈ U, y.key = k) ∧ e = .returned .nilIface ∧ BdAt w' p ge gs gg S E (U.filter fun u => u.key ≠ k) G)

set_option maxRecDepth 100000 in
set_option maxHeartbeats 4000000 in
theorem buns_any (p ge gs gg : Nat) (S : List At) (E : List Bev) (U : List Bsb) (G : List Bgf) (nd id : Int) (w : World) (h : BdAt w p ge gs gg S E U G) :
    Calls Tryz.prog 20 #[.pointer (some ⟨p, 0, none⟩), .agg #[.int .i64 nd, .int .i64 id]] w fun e w' => BUns e w' p ge gs gg S E U G (nd, id) ∧ Kb w w' ge gs gg := by
  obtain ⟨W1, hW1⟩ : ∃ W1, W1 = w.alloc (.cells #[.int .i64 nd, .int .i64 id] 56) := ⟨_, rfl⟩
  have b1 : Below w.heap.size w W1 := by rw [hW1]; exact b_one _ _
  have y0 : W1.cell? ⟨w.heap.size, 0, none⟩ = some (.int .i64 nd) := by rw [hW1]; exact World.cell?_alloc_new ..
  have y1 : W1.cell? ⟨w.heap.size, 1, none⟩ = some (.int .i64 id) := by rw [hW1]; simp
  obtain ⟨sa, sc, _, c0, c1, c2, c3, cl⟩ := (h.below b1).cells
  have H2 : Hid (BdAt W1 p ge gs gg S E U G ∧ Below w.heap.size w W1) := ⟨h.below b1, b1⟩
  clear h b1
  generalize hq : w.heap.size = q at y0 y1
  have yl := cell_block y0
  have HD : Hid (BdAt W1.drew p ge gs gg S E U G ∧ Below w.heap.size w W1.drew) := ⟨H2.out.1.drew, H2.out.2.trans ((b_drew W1).mono H2.out.2.size)⟩
  rcases H2.out.1.ask_sb (nd, id) with ⟨hno, hlk⟩ | ⟨y, ya, yc, hy, hk, _, hlk⟩
  · have hlk2 := hlk W1.drew (b_drew W1)
    simp only at hlk2
    have HY : Hid (∀ y ∈ U, y.key ≠ (nd, id)) := hno
    clear hlk hno
    go_enter Tryz.func20, Tryz.ntmps20
    go_upto_region 1 with fail
    rw [← hW1]
    try rw [hq]
    clear hW1 hq
    go_region
    go_wp2
    go_ret
    exact ⟨.inl ⟨HY.out, rfl, HD.out.1⟩, Kb.ofBelow HD.out.2⟩
  · have hlk2 := hlk W1.drew (b_drew W1)
    simp only at hlk2
    have HY : Hid (∃ y ∈ U, y.key = (nd, id)) := ⟨y, hy, hk⟩
    generalize y.ps.length = yn at hlk2
    have b2d : Below W1.heap.size W1 W1.drew.drew := (b_drew W1).trans (b_drew W1.drew)
    obtain ⟨w5, hdel, p2, p3⟩ := (H2.out.1.below b2d).del_sb (nd, id) 0 56
    simp only at hdel
    have H5 : Hid (BdAt w5 p ge gs gg S E (U.filter fun u => u.key ≠ (nd, id)) G ∧ Kb w w5 ge gs gg) := ⟨p2, (Kb.ofBelow (H2.out.2.trans (b2d.mono H2.out.2.size))).trans p3⟩
    clear hlk hy hk p2 p3 b2d
    go_enter Tryz.func20, Tryz.ntmps20
    go_upto_region 1 with fail
    rw [← hW1]
    try rw [hq]
    clear hW1 hq
    go_region
    go_wp2
    go_region
    go_wp2
    go_ret
    exact ⟨.inr ⟨HY.out, rfl, H5.out.1⟩, H5.out.2⟩

set_option maxRecDepth 100000 in
set_option maxHeartbeats 2000000 in
theorem bsame_any (v u : Value) (xs ys : List Vl) (s t : ByteArray) (w : World) (h : VlIn w v xs) (h2 : VlIn w u ys) (hl : xs.length ≤ 1000) (hl2 : ys.length ≤ 1000) :
    Calls Tryz.prog 23 #[.agg #[v, .string s], .agg #[u, .string t]] w fun e w' => Says e (xs = ys ∧ s = t) ∧ Below w.heap.size w w' := by
  obtain ⟨a, c, rfl, _⟩ := h.shape
  obtain ⟨b, d, rfl, _⟩ := h2.shape
  obtain ⟨W1, hW1⟩ : ∃ W1, W1 = (w.alloc (.cells #[.slice a xs.length c, .string s] 44)).alloc (.cells #[.slice b ys.length d, .string t] 44) := ⟨_, rfl⟩
  have b1 : Below w.heap.size w W1 := by rw [hW1]; exact (b_one _ _).trans ((b_one _ _).mono (by simp))
  have x0 : W1.cell? ⟨w.heap.size, 0, none⟩ = some (.slice a xs.length c) := by rw [hW1]; simp
  have x1 : W1.cell? ⟨w.heap.size, 1, none⟩ = some (.string s) := by rw [hW1]; simp
  have y0 : W1.cell? ⟨w.heap.size + 1, 0, none⟩ = some (.slice b ys.length d) := by rw [hW1]; simp
  have y1 : W1.cell? ⟨w.heap.size + 1, 1, none⟩ = some (.string t) := by rw [hW1]; simp
  have HC := eqvl_any _ _ xs ys W1 (h.below b1) (h2.below b1) hl hl2
  have B1 : Hid (Below w.heap.size w W1) := b1
  clear h h2 b1
  by_cases e1 : xs = ys
  · have HC2 : Hid (Calls Tryz.prog 45 #[.slice a xs.length c, .slice b ys.length d] W1 fun e w' => e = .returned (.bool true) ∧ Below W1.heap.size W1 w') := HC.mono (fun e w' z => ⟨z.1.t e1, z.2⟩)
    have HE : Hid (xs = ys) := e1
    clear HC e1
    generalize xs.length = n at *
    generalize ys.length = m at *
    go_enter Tryz.func23, Tryz.ntmps23
    go_upto_region 1 with fail
    rw [← hW1]
    clear hW1
    have xl := cell_block x0
    have yl := cell_block y0
    go_wp2_with fail
    refine Calls.mono HC2.out ?_
    rintro e w2 ⟨rfl, b2⟩
    have z1 := cell_grown x1 b2
    have u1 := cell_grown y1 b2
    have zl := cell_block z1
    have ul := cell_block u1
    have B2 : Hid (Below w.heap.size w w2) := B1.out.trans (b2.mono B1.out.size)
    clear x0 x1 y0 y1 xl yl b2
    go_wp2
    go_ret
    exact ⟨⟨_, rfl, by simp [toList_inj, HE.out]⟩, B2.out⟩
  · have HC2 : Hid (Calls Tryz.prog 45 #[.slice a xs.length c, .slice b ys.length d] W1 fun e w' => e = .returned (.bool false) ∧ Below W1.heap.size W1 w') := HC.mono (fun e w' z => ⟨z.1.f e1, z.2⟩)
    have HE : Hid (¬ xs = ys) := e1
    clear HC e1
    generalize xs.length = n at *
    generalize ys.length = m at *
    go_enter Tryz.func23, Tryz.ntmps23
    go_upto_region 1 with fail
    rw [← hW1]
    clear hW1
    have xl := cell_block x0
    have yl := cell_block y0
    go_wp2_with fail
    refine Calls.mono HC2.out ?_
    rintro e w2 ⟨rfl, b2⟩
    have B2 : Hid (Below w.heap.size w w2) := B1.out.trans (b2.mono B1.out.size)
    clear x0 x1 y0 y1 xl yl b2
    go_wp2
    go_ret
    exact ⟨Says.no (fun q => HE.out q.1), B2.out⟩

set_option maxRecDepth 100000 in
set_option maxHeartbeats 2000000 in
theorem bhas_any (p ge gs gg : Nat) (S : List At) (E : List Bev) (U : List Bsb) (G : List Bgf) (n i pu sq : Int) (w : World) (h : BdAt w p ge gs gg S E U G) :
    Calls Tryz.prog 35 #[.pointer (some ⟨p, 0, none⟩), .agg #[.int .i64 n, .int .i64 i], .agg #[.int .i64 pu, .int .i64 sq]] w fun e w' => e = .returned (.bool (decide (((n, i), (pu, sq)) ∈ G))) ∧ Below w.heap.size w w' := by
  obtain ⟨W1, hW1⟩ : ∃ W1, W1 = (w.alloc (.cells #[.int .i64 n, .int .i64 i] 56)).alloc (.cells #[.int .i64 pu, .int .i64 sq] 100) := ⟨_, rfl⟩
  have b1 : Below w.heap.size w W1 := by rw [hW1]; exact (b_one _ _).trans ((b_one _ _).mono (by simp))
  have x0 : W1.cell? ⟨w.heap.size, 0, none⟩ = some (.int .i64 n) := by rw [hW1]; simp
  have x1 : W1.cell? ⟨w.heap.size, 1, none⟩ = some (.int .i64 i) := by rw [hW1]; simp
  have y0 : W1.cell? ⟨w.heap.size + 1, 0, none⟩ = some (.int .i64 pu) := by rw [hW1]; simp
  have y1 : W1.cell? ⟨w.heap.size + 1, 1, none⟩ = some (.int .i64 sq) := by rw [hW1]; simp
  obtain ⟨sa, sc, _, c0, c1, c2, c3, cl⟩ := (h.below b1).cells
  have hk1 := (h.below b1).ask_gf ((n, i), (pu, sq)) W1.drew (b_drew W1)
  have hk2 := (h.below b1).ask_gf ((n, i), (pu, sq)) (W1.alloc (.cells #[] 122)).drew ((b_one W1 _).trans (show Below W1.heap.size _ _ from ⟨rfl, rfl, rfl, Nat.le_refl _, fun _ _ => rfl⟩))
  simp only at hk1 hk2
  obtain ⟨bo, hbo⟩ : ∃ bo, bo = decide (((n, i), (pu, sq)) ∈ G) := ⟨_, rfl⟩
  rw [← hbo] at hk1 hk2 ⊢
  have B1 : Hid (Below w.heap.size w W1) := b1
  clear h b1 hbo
  have xl := cell_block x0
  have yl := cell_block y0
  go_enter Tryz.func35, Tryz.ntmps35
  go_upto_region 1 with fail
  rw [← hW1]
  clear hW1
  go_cut [8] (fun v wx => v = .bool bo ∧ Hid (Below w.heap.size w wx))
  case first =>
    go_region
    all_goals
      go_wp2
      go_meet
      exact ⟨rfl, B1.out.trans ((b_drewa W1 _).mono B1.out.size)⟩
  case rest =>
    rename World => W2
    obtain ⟨rfl, HB2⟩ := hcut
    go_wp2
    go_ret
    exact ⟨rfl, HB2.out⟩
end Go.Proofs.YtpepbhmdfjpblaaGreatDoor

/- Give. -/
namespace Go.Proofs.YtpepbhmdfjpblaaGreatDoor
open Go.ChangeShapes Go.WideShapes Go.ChangeAt Go.RowKit Go.Deep
open Go.ChangeMaps (setBlock)
set_option linter.unusedVariables false

/-- The code of Give. -/
def GiveC (S : List At) (E : List Bev) (U : List Bsb) (G : List Bgf) (k : Bgf) (vs : List Vl) (pay : ByteArray) (c : Int) : Prop :=
  (c = 9 ∧ ∀ y ∈ E, y.key ≠ k.2) ∨ ∃ y ∈ E, y.key = k.2 ∧ ((c = 11 ∧ ¬ (y.vs = vs ∧ y.pay = pay)) ∨ ((y.vs = vs ∧ y.pay = pay) ∧ ((c = 12 ∧ ∀ x ∈ U, x.key ≠ k.1) ∨
    ∃ x ∈ U, x.key = k.1 ∧ ((c = 3 ∧ ¬ MatchOk S x.ps y.vs y.pay.size) ∨ (MatchOk S x.ps y.vs y.pay.size ∧ ((c = 5 ∧ k ∈ G) ∨ (c = 0 ∧ k ∉ G)))))))
def BGiv (e : Ending) (w' : World) (p ge gs gg : Nat) (S : List At) (E : List Bev) (U : List Bsb) (G : List Bgf) (k : Bgf) (vs : List Vl) (pay : ByteArray) : Prop :=
  (GiveC S E U G k vs pay 0 ∧ e = .returned .nilIface ∧ BdAt w' p ge gs gg S E U (G ++ [k])) ∨
  ∃ c : Int, c ≠ 0 ∧ GiveC S E U G k vs pay c ∧ e = .returned (.iface 36 (.int .i64 c)) ∧ BdAt w' p ge gs gg S E U G
theorem BdAt.look_ev {w : World} {p ge gs gg : Nat} {S : List At} {E : List Bev} {U : List Bsb} {G : List Bgf} (h : BdAt w p ge gs gg S E U G) (k : Int × Int) :
    ∃ (a : Option Addr) (n c : Nat) (s : ByteArray) (b : Bool), (∀ w', Below w.heap.size w w' → (Instr.lookup 82 (.map (some ge)) (.agg #[.int .i64 k.1, .int .i64 k.2]) true).run Tryz.prog w' = .ok (.tuple #[.agg #[.slice a n c, .string s], .bool b]) w') ∧
      Hid ((b = false ∧ ∀ e ∈ E, e.key ≠ k) ∨ (b = true ∧ ∃ e ∈ E, e.key = k ∧ s = e.pay ∧ VlIn w (.slice a n c) e.vs)) := by
  rcases h.ask_ev k with ⟨h1, h2⟩ | ⟨e, u, h1, h2, h3, h4⟩
  · exact ⟨none, 0, 0, ByteArray.empty, false, h2, .inl ⟨rfl, h1⟩⟩
  · obtain ⟨a, c, rfl, _⟩ := h3.shape
    exact ⟨a, e.vs.length, c, e.pay, true, h4, .inr ⟨rfl, e, h1, h2, rfl, h3⟩⟩
theorem BdAt.look_sb {w : World} {p ge gs gg : Nat} {S : List At} {E : List Bev} {U : List Bsb} {G : List Bgf} (h : BdAt w p ge gs gg S E U G) (k : Int × Int) :
    ∃ (a : Option Addr) (n c : Nat) (b : Bool), (∀ w', Below w.heap.size w w' → (Instr.lookup 83 (.map (some gs)) (.agg #[.int .i64 k.1, .int .i64 k.2]) true).run Tryz.prog w' = .ok (.tuple #[.slice a n c, .bool b]) w') ∧
      Hid ((b = false ∧ ∀ e ∈ U, e.key ≠ k) ∨ (b = true ∧ ∃ e ∈ U, e.key = k ∧ PdIn w (.slice a n c) e.ps)) := by
  rcases h.ask_sb k with ⟨h1, h2⟩ | ⟨e, a, c, h1, h2, h3, h4⟩
  · exact ⟨none, 0, 0, false, h2, .inl ⟨rfl, h1⟩⟩
  · exact ⟨a, e.ps.length, c, true, h4, .inr ⟨rfl, e, h1, h2, h3⟩⟩
theorem evok_len {S : List At} {vs : List Vl} {n : Nat} (hs : SchemaOk S) (h : EventOk S vs n) : vs.length ≤ 1000 := by have := h.1; have := hs.2.1; omega
theorem evok_str {S : List At} {vs : List Vl} {n : Nat} (h : EventOk S vs n) : ∀ i, i < vs.length → (vs.getD i vl0).str.size ≤ maxLen := fun i hi => by
  have hl := h.1
  rcases h.2.2 i (by omega) with q | q
  · rw [q.2.2.2]; simp
  · have := q.2.1.le; unfold maxLen; omega
theorem filok_len {S : List At} {ps : List Pd} (h : FilterOk S ps) : ps.length ≤ 1000 := by have := h.2.1; omega
theorem filok_str {S : List At} {ps : List Pd} (h : FilterOk S ps) : ∀ i, i < ps.length → (ps.getD i pd0).str.size ≤ maxLen := fun i hi => by
  obtain ⟨k, _, q⟩ := (h.2.2 i hi).2
  rcases q with q | q
  · rw [q.2.2.2.2.2]; simp
  · have := q.2.2.1.le; unfold maxLen; omega
/-- Match on the board. -/
theorem bmatch {w : World} {p ge gs gg : Nat} {S : List At} {E : List Bev} {U : List Bsb} {G : List Bgf} {sv : Value} {x : Bsb} {y : Bev} {u v : Value} (h : BdAt w p ge gs gg S E U G) (hs : AtIn w sv S) (hx : x ∈ U) (hy : y ∈ E) (hu : PdIn w u x.ps) (hv : VlIn w v y.vs) :
    Calls Tryz.prog 34 #[sv, u, .agg #[v, .string y.pay]] w fun e w' => Says e (MatchOk S x.ps y.vs y.pay.size) ∧ Below w.heap.size w w' := by
  have ok := h.eok y hy
  have fk := h.uok x hx
  exact match_any sv u v S x.ps y.vs y.pay w hs hu hv (by have := h.sok.2.1; omega) (filok_len fk) (evok_len h.sok ok) (by have := ok.2.1; unfold maxLen; omega) (filok_str fk) (evok_str ok)

set_option maxRecDepth 100000 in
set_option maxHeartbeats 8000000 in
theorem bgive_any (p ge gs gg : Nat) (S : List At) (E : List Bev) (U : List Bsb) (G : List Bgf) (n sub pub seq : Int) (u : Value) (vs : List Vl) (pay : ByteArray) (w : World) (h : BdAt w p ge gs gg S E U G) (hu : VlIn w u vs) (hl : vs.length ≤ 1000) :
    Calls Tryz.prog 22 #[.pointer (some ⟨p, 0, none⟩), .int .i64 n, .agg #[.int .i64 sub, .int .i64 pub, .int .i64 seq, u, .string pay]] w fun e w' => BGiv e w' p ge gs gg S E U G ((n, sub), (pub, seq)) vs pay ∧ Kb w w' ge gs gg := by
  obtain ⟨ua, uc, rfl, _⟩ := hu.shape
  obtain ⟨W1, hW1⟩ : ∃ W1, W1 = w.alloc (.cells #[.int .i64 sub, .int .i64 pub, .int .i64 seq, .slice ua vs.length uc, .string pay] 68) := ⟨_, rfl⟩
  have b1 : Below w.heap.size w W1 := by rw [hW1]; exact b_one _ _
  have d0 : W1.cell? ⟨w.heap.size, 0, none⟩ = some (.int .i64 sub) := by rw [hW1]; exact World.cell?_alloc_new ..
  have d1 : W1.cell? ⟨w.heap.size, 1, none⟩ = some (.int .i64 pub) := by rw [hW1]; simp
  have d2 : W1.cell? ⟨w.heap.size, 2, none⟩ = some (.int .i64 seq) := by rw [hW1]; simp
  have d3 : W1.cell? ⟨w.heap.size, 3, none⟩ = some (.slice ua vs.length uc) := by rw [hW1]; simp
  have d4 : W1.cell? ⟨w.heap.size, 4, none⟩ = some (.string pay) := by rw [hW1]; simp
  have H1 : Hid (BdAt W1 p ge gs gg S E U G ∧ VlIn W1 (.slice ua vs.length uc) vs ∧ vs.length ≤ 1000 ∧ Below w.heap.size w W1) := ⟨h.below b1, hu.below b1, hl, b1⟩
  clear h hu b1 hl
  generalize hq : w.heap.size = q at d0 d1 d2 d3 d4
  have dl := cell_block d0
  have HQ : Hid (w.heap.size = q) := hq
  go_enter Tryz.func22, Tryz.ntmps22
  go_upto_region 1 with fail
  rw [← hW1]
  try rw [hq]
  clear hW1 hq
  go_cut [7, 8] (fun a b wx => ∃ q1 q2 : Nat, a = .pointer (some ⟨q1, 0, none⟩) ∧ b = .pointer (some ⟨q2, 0, none⟩) ∧ Hid (Below W1.heap.size W1 wx ∧ wx.cell? ⟨q1, 0, none⟩ = some (.int .i64 n) ∧ wx.cell? ⟨q1, 1, none⟩ = some (.int .i64 sub) ∧ wx.cell? ⟨q2, 0, none⟩ = some (.int .i64 pub) ∧ wx.cell? ⟨q2, 1, none⟩ = some (.int .i64 seq)))
  case first =>
    go_region
    all_goals
      go_wp2
      go_meet
      exact ⟨_, _, rfl, rfl, ⟨⟨rfl, rfl, rfl, by simp; omega, fun k hk => (Below.heap_alloc _ _ _ (by simp; omega)).trans (Below.heap_alloc _ _ _ hk)⟩, by simp, by simp, by simp, by simp⟩⟩
  case rest =>
    rename World => W2
    obtain ⟨q1, q2, rfl, rfl, HC⟩ := hcut
    obtain ⟨hb2, t0, t1, s0, s1⟩ := HC.out
    have H2 : Hid (BdAt W2 p ge gs gg S E U G ∧ VlIn W2 (.slice ua vs.length uc) vs ∧ Below w.heap.size w W2) := ⟨H1.out.1.below hb2, H1.out.2.1.below hb2, H1.out.2.2.2.trans (hb2.mono H1.out.2.2.2.size)⟩
    have e3 := cell_grown d3 hb2
    have e4 := cell_grown d4 hb2
    have el := cell_block e3
    have tl := cell_block t0
    have sl := cell_block s0
    obtain ⟨sa, sc, _, c0, c1, c2, c3, cl⟩ := H2.out.1.cells
    obtain ⟨ya, yn, yc, yp, eb, hlk, HEV⟩ := H2.out.1.look_ev (pub, seq)
    have hk1 := hlk W2.drew (b_drew W2)
    have hk2 := hlk (W2.alloc (.cells #[.slice none 0 0, .string ⟨#[]⟩] 44)).drew ((b_one W2 _).trans (show Below W2.heap.size _ _ from ⟨rfl, rfl, rfl, Nat.le_refl _, fun _ _ => rfl⟩))
    simp only at hk1 hk2
    clear d0 d1 d2 d3 d4 dl hb2 hlk HC
    go_upto_region 2 with fail
    go_cut [9, 10] (fun a b wx => ∃ q3 : Nat, a = .pointer (some ⟨q3, 0, none⟩) ∧ b = .bool eb ∧ Hid (Below W2.heap.size W2 wx ∧ wx.cell? ⟨q3, 0, none⟩ = some (.slice ya yn yc) ∧ wx.cell? ⟨q3, 1, none⟩ = some (.string yp)))
    case first =>
      go_region
      all_goals
        go_wp2
        go_meet
        exact ⟨_, rfl, rfl, ⟨⟨rfl, rfl, rfl, by simp, fun k hk => Below.heap_alloc _ _ _ hk⟩, by simp, by simp⟩⟩
    case rest =>
      rename World => W3
      obtain ⟨q3, rfl, rfl, HC⟩ := hcut
      obtain ⟨hb3, v0, v1⟩ := HC.out
      have H3 : Hid (BdAt W3 p ge gs gg S E U G ∧ VlIn W3 (.slice ua vs.length uc) vs ∧ Below w.heap.size w W3 ∧ Below W2.heap.size W2 W3) := ⟨H2.out.1.below hb3, H2.out.2.1.below hb3, H2.out.2.2.trans (hb3.mono H2.out.2.2.size), hb3⟩
      clear hk1 hk2 c0 c1 c2 c3 cl HC
      replace t0 := cell_grown t0 hb3
      replace t1 := cell_grown t1 hb3
      replace s0 := cell_grown s0 hb3
      replace s1 := cell_grown s1 hb3
      replace e3 := cell_grown e3 hb3
      replace e4 := cell_grown e4 hb3
      replace el := cell_block e3
      replace tl := cell_block t0
      replace sl := cell_block s0
      have vl := cell_block v0
      clear hb3
      obtain ⟨sa, sc, hsA, c0, c1, c2, c3, cl⟩ := H3.out.1.cells
      have HSA : Hid (AtIn W3 (.slice sa S.length sc) S) := hsA
      obtain ⟨fa, fn, fc, fb, hlk, HSB⟩ := H3.out.1.look_sb (n, sub)
      have hk1 := hlk W3.drew (b_drew W3)
      simp only at hk1
      clear hlk hsA
      go_upto_region 3 with fail
      go_cut [11, 12] (fun a b wx => a = .slice fa fn fc ∧ b = .bool fb ∧ W3.drew = wx)
      case first =>
        go_region
        all_goals
          go_wp2
          go_meet
          exact ⟨rfl, rfl, rfl⟩
      case rest =>
        rename World => W4
        obtain ⟨rfl, rfl, hw4⟩ := hcut
        have hb4 : Below W3.heap.size W3 W4 := by rw [← hw4]; exact b_drew W3
        clear hw4 hk1 c0 c1 c2 c3 cl
        have H4 : Hid (BdAt W4 p ge gs gg S E U G ∧ VlIn W4 (.slice ua vs.length uc) vs ∧ Below w.heap.size w W4 ∧ Below W2.heap.size W2 W4 ∧ AtIn W4 (.slice sa S.length sc) S) := ⟨H3.out.1.below hb4, H3.out.2.1.below hb4, H3.out.2.2.1.trans (hb4.mono H3.out.2.2.1.size), H3.out.2.2.2.trans (hb4.mono H3.out.2.2.2.size), HSA.out.below hb4⟩
        have HSB2 : Hid ((fb = false ∧ ∀ e ∈ U, e.key ≠ (n, sub)) ∨ (fb = true ∧ ∃ e ∈ U, e.key = (n, sub) ∧ PdIn W4 (.slice fa fn fc) e.ps)) := by
          rcases HSB.out with z | ⟨z1, z2, z3, z4, z5⟩
          · exact .inl z
          · exact .inr ⟨z1, z2, z3, z4, z5.below hb4⟩
        replace t0 := cell_grown t0 hb4
        replace t1 := cell_grown t1 hb4
        replace s0 := cell_grown s0 hb4
        replace s1 := cell_grown s1 hb4
        replace e3 := cell_grown e3 hb4
        replace e4 := cell_grown e4 hb4
        replace v0 := cell_grown v0 hb4
        replace v1 := cell_grown v1 hb4
        replace el := cell_block e3
        replace tl := cell_block t0
        replace sl := cell_block s0
        replace vl := cell_block v0
        clear hb4 HSB HSA H3
        rcases HEV.out with ⟨rfl, hno⟩ | ⟨rfl, y, hy, hyk, rfl, hyv⟩
        · have HN : Hid (∀ e ∈ E, e.key ≠ (pub, seq)) := hno
          clear hno
          go_wp2
          go_ret
          exact ⟨.inr ⟨9, by decide, .inl ⟨rfl, HN.out⟩, rfl, H4.out.1⟩, Kb.ofBelow H4.out.2.2.1⟩
        · have hy1 := evok_len H4.out.1.sok (H4.out.1.eok y hy)
          have HSM := bsame_any _ _ y.vs vs y.pay pay W4 (hyv.below H4.out.2.2.2.1) H4.out.2.1 hy1 H1.out.2.2.1
          have HY : Hid (y ∈ E ∧ y.key = (pub, seq) ∧ VlIn W4 (.slice ya yn yc) y.vs) := ⟨hy, hyk, hyv.below H4.out.2.2.2.1⟩
          obtain ⟨yp, hyp⟩ : ∃ yp, yp = y.pay := ⟨_, rfl⟩
          rw [← hyp] at v1 HSM
          have HYP : Hid (yp = y.pay) := hyp
          clear hy hyk hyv hy1 hyp
          by_cases hs : y.vs = vs ∧ yp = pay
          · have HS : Hid (Calls Tryz.prog 23 #[.agg #[.slice ya yn yc, .string yp], .agg #[.slice ua vs.length uc, .string pay]] W4 fun e w' => e = .returned (.bool true) ∧ Below W4.heap.size W4 w') := HSM.mono (fun e w' z => ⟨z.1.t hs, z.2⟩)
            have HSE : Hid (y.vs = vs ∧ y.pay = pay) := ⟨hs.1, by rw [← HYP.out]; exact hs.2⟩
            clear HSM hs
            go_wp2_with fail
            refine Calls.mono HS.out ?_
            rintro e w5 ⟨rfl, b5⟩
            have H5 : Hid (BdAt w5 p ge gs gg S E U G ∧ Below w.heap.size w w5 ∧ AtIn w5 (.slice sa S.length sc) S ∧ VlIn w5 (.slice ya yn yc) y.vs ∧ Below W4.heap.size W4 w5) := ⟨H4.out.1.below b5, H4.out.2.2.1.trans (b5.mono H4.out.2.2.1.size), H4.out.2.2.2.2.below b5, HY.out.2.2.below b5, b5⟩
            replace t0 := cell_grown t0 b5
            replace t1 := cell_grown t1 b5
            replace s0 := cell_grown s0 b5
            replace s1 := cell_grown s1 b5
            replace v0 := cell_grown v0 b5
            replace v1 := cell_grown v1 b5
            replace tl := cell_block t0
            replace sl := cell_block s0
            replace vl := cell_block v0
            clear b5 e3 e4 el HS
            rcases HSB2.out with ⟨rfl, hno⟩ | ⟨rfl, x, hx, hxk, hxP⟩
            · have HN : Hid (∀ e ∈ U, e.key ≠ (n, sub)) := hno
              clear hno
              go_wp2
              go_ret
              exact ⟨.inr ⟨12, by decide, .inr ⟨y, HY.out.1, HY.out.2.1, .inr ⟨HSE.out, .inl ⟨rfl, HN.out⟩⟩⟩, rfl, H5.out.1⟩, Kb.ofBelow H5.out.2.1⟩
            · have HX : Hid (x ∈ U ∧ x.key = (n, sub)) := ⟨hx, hxk⟩
              obtain ⟨sb, sd, hsB, c0, _, _, c3, cl⟩ := H5.out.1.cells
              have HMT : ∀ W, Below w5.heap.size w5 W → Calls Tryz.prog 34 #[.slice sb S.length sd, .slice fa fn fc, .agg #[.slice ya yn yc, .string yp]] W fun e w' => Says e (MatchOk S x.ps y.vs y.pay.size) ∧ Below w5.heap.size w5 w' := fun W hW => by
                have hh := H5.out.1.below hW
                have hmt := bmatch hh (hsB.below hW) hx HY.out.1 ((hxP.below H5.out.2.2.2.2).below hW) (H5.out.2.2.2.1.below hW)
                rw [← HYP.out] at hmt ⊢
                refine hmt.mono ?_
                rintro e w' ⟨h1, h2⟩
                exact ⟨h1, hW.trans (h2.mono hW.size)⟩
              clear hx hxk hxP hsB
              by_cases hm : MatchOk S x.ps y.vs y.pay.size
              · -- it takes it
                have HMT2 : Hid (∀ W, Below w5.heap.size w5 W → Calls Tryz.prog 34 #[.slice sb S.length sd, .slice fa fn fc, .agg #[.slice ya yn yc, .string yp]] W fun e w' => e = .returned (.bool true) ∧ Below w5.heap.size w5 w') := fun W hW => (HMT W hW).mono (fun e w' z => ⟨z.1.t hm, z.2⟩)
                have HMO : Hid _ := hm
                clear HMT hm
                go_upto_region 10 with fail
                go_cut [55] (fun v wx => v = .bool false ∧ Hid (Below w5.heap.size w5 wx))
                case first =>
                  go_region_held3 (fun W' => W'.cell? ⟨p, 0, none⟩ = some (.slice sb S.length sd) ∧ W'.cell? ⟨q3, 0, none⟩ = some (.slice ya yn yc) ∧ W'.cell? ⟨q3, 1, none⟩ = some (.string yp))
                    (first
                      | go_keep
                      | assumption)
                    ((go_at_call 34; refine Calls.mono (HMT2.out _ ?_) ?_; exact ⟨rfl, rfl, rfl, Nat.le_refl _, fun _ _ => rfl⟩; rintro e wV ⟨rfl, hV⟩
                      have BV : Hid (Below w5.heap.size w5 wV) := hV
                      have z0 := cell_grown c0 hV
                      have z1 := cell_grown v0 hV
                      have z2 := cell_grown v1 hV
                      have zl := cell_block z0
                      have zm := cell_block z1
                      clear hV))
                  all_goals
                    go_wp2
                    go_meet
                    exact ⟨rfl, BV⟩
                case rest =>
                  rename World => W6
                  obtain ⟨rfl, HB6⟩ := hcut
                  have H6 : Hid (BdAt W6 p ge gs gg S E U G ∧ Below w.heap.size w W6) := ⟨H5.out.1.below HB6.out, H5.out.2.1.trans (HB6.out.mono H5.out.2.1.size)⟩
                  replace t0 := cell_grown t0 HB6.out
                  replace t1 := cell_grown t1 HB6.out
                  replace s0 := cell_grown s0 HB6.out
                  replace s1 := cell_grown s1 HB6.out
                  replace tl := cell_block t0
                  replace sl := cell_block s0
                  clear c0 c3 cl v0 v1 vl HMT2
                  go_wp2_with fail
                  refine (bhas_any p ge gs gg S E U G n sub pub seq _ H6.out.1).mono ?_
                  rintro e w7 ⟨rfl, b7⟩
                  have H7 : Hid (BdAt w7 p ge gs gg S E U G ∧ Below w.heap.size w w7) := ⟨H6.out.1.below b7, H6.out.2.trans (b7.mono H6.out.2.size)⟩
                  replace t0 := cell_grown t0 b7
                  replace t1 := cell_grown t1 b7
                  replace s0 := cell_grown s0 b7
                  replace s1 := cell_grown s1 b7
                  replace tl := cell_block t0
                  replace sl := cell_block s0
                  clear b7
                  by_cases hg : ((n, sub), (pub, seq)) ∈ G
                  · rw [decide_eq_true hg]
                    have HG : Hid (((n, sub), (pub, seq)) ∈ G) := hg
                    clear hg
                    go_wp2
                    go_ret
                    exact ⟨.inr ⟨5, by decide, .inr ⟨y, HY.out.1, HY.out.2.1, .inr ⟨HSE.out, .inr ⟨x, HX.out.1, HX.out.2, .inr ⟨HMO.out, .inl ⟨rfl, HG.out⟩⟩⟩⟩⟩, rfl, H7.out.1⟩, Kb.ofBelow H7.out.2⟩
                  · rw [decide_eq_false hg]
                    have HG : Hid (((n, sub), (pub, seq)) ∉ G) := hg
                    obtain ⟨w9, hput, p2, p3⟩ := H7.out.1.drew.put_gf ((n, sub), (pub, seq)) hg
                    simp only at hput
                    have H9 : Hid (BdAt w9 p ge gs gg S E U (G ++ [((n, sub), (pub, seq))]) ∧ Kb w w9 ge gs gg) := ⟨p2, (Kb.ofBelow (H7.out.2.trans ((b_drew w7).mono H7.out.2.size))).trans p3⟩
                    obtain ⟨_, _, _, _, _, _, c3, cl⟩ := H7.out.1.cells
                    clear hg p2 p3
                    go_wp2
                    go_region
                    go_wp2
                    go_ret
                    exact ⟨.inl ⟨.inr ⟨y, HY.out.1, HY.out.2.1, .inr ⟨HSE.out, .inr ⟨x, HX.out.1, HX.out.2, .inr ⟨HMO.out, .inr ⟨rfl, HG.out⟩⟩⟩⟩⟩, rfl, H9.out.1⟩, H9.out.2⟩
              · -- it doesn't
                have HMT2 : Hid (∀ W, Below w5.heap.size w5 W → Calls Tryz.prog 34 #[.slice sb S.length sd, .slice fa fn fc, .agg #[.slice ya yn yc, .string yp]] W fun e w' => e = .returned (.bool false) ∧ Below w5.heap.size w5 w') := fun W hW => (HMT W hW).mono (fun e w' z => ⟨z.1.f hm, z.2⟩)
                have HMO : Hid _ := hm
                clear HMT hm
                go_upto_region 10 with fail
                go_cut [55] (fun v wx => v = .bool true ∧ Hid (Below w5.heap.size w5 wx))
                case first =>
                  go_region_held3 (fun W' => W'.cell? ⟨p, 0, none⟩ = some (.slice sb S.length sd) ∧ W'.cell? ⟨q3, 0, none⟩ = some (.slice ya yn yc) ∧ W'.cell? ⟨q3, 1, none⟩ = some (.string yp))
                    (first
                      | go_keep
                      | assumption)
                    ((go_at_call 34; refine Calls.mono (HMT2.out _ ?_) ?_; exact ⟨rfl, rfl, rfl, Nat.le_refl _, fun _ _ => rfl⟩; rintro e wV ⟨rfl, hV⟩
                      have BV : Hid (Below w5.heap.size w5 wV) := hV
                      have z0 := cell_grown c0 hV
                      have z1 := cell_grown v0 hV
                      have z2 := cell_grown v1 hV
                      have zl := cell_block z0
                      have zm := cell_block z1
                      clear hV))
                  all_goals
                    go_wp2
                    go_meet
                    exact ⟨rfl, BV⟩
                case rest =>
                  rename World => W6
                  obtain ⟨rfl, HB6⟩ := hcut
                  have H6 : Hid (BdAt W6 p ge gs gg S E U G ∧ Below w.heap.size w W6) := ⟨H5.out.1.below HB6.out, H5.out.2.1.trans (HB6.out.mono H5.out.2.1.size)⟩
                  clear c0 c3 cl v0 v1 vl HMT2 t0 t1 s0 s1 tl sl
                  go_wp2
                  go_ret
                  exact ⟨.inr ⟨3, by decide, .inr ⟨y, HY.out.1, HY.out.2.1, .inr ⟨HSE.out, .inr ⟨x, HX.out.1, HX.out.2, .inl ⟨rfl, HMO.out⟩⟩⟩⟩, rfl, H6.out.1⟩, Kb.ofBelow H6.out.2⟩
          · have HS : Hid (Calls Tryz.prog 23 #[.agg #[.slice ya yn yc, .string yp], .agg #[.slice ua vs.length uc, .string pay]] W4 fun e w' => e = .returned (.bool false) ∧ Below W4.heap.size W4 w') := HSM.mono (fun e w' z => ⟨z.1.f hs, z.2⟩)
            have HSE : Hid (¬ (y.vs = vs ∧ y.pay = pay)) := fun q => hs ⟨q.1, by rw [HYP.out]; exact q.2⟩
            clear HSM hs
            go_wp2_with fail
            refine Calls.mono HS.out ?_
            rintro e w5 ⟨rfl, b5⟩
            have H5 : Hid (BdAt w5 p ge gs gg S E U G ∧ Below w.heap.size w w5) := ⟨H4.out.1.below b5, H4.out.2.2.1.trans (b5.mono H4.out.2.2.1.size)⟩
            clear b5 t0 t1 s0 s1 v0 v1 tl sl vl e3 e4 el HS
            go_wp2
            go_ret
            exact ⟨.inr ⟨11, by decide, .inr ⟨y, HY.out.1, HY.out.2.1, .inl ⟨rfl, HSE.out⟩⟩, rfl, H5.out.1⟩, Kb.ofBelow H5.out.2⟩
end Go.Proofs.YtpepbhmdfjpblaaGreatDoor

/- board.rising; slices.SortFunc of pairs by it. -/
namespace Go.Proofs.YtpepbhmdfjpblaaGreatDoor
open Go.ChangeShapes Go.WideShapes Go.ChangeAt Go.RowKit Go.Sort
set_option linter.unusedVariables false

def cfI2 (x y : Int) : Int := if x < y then -1 else if y < x then 1 else 0
theorem cf2_lt (x y : Int) : cfI2 x y < 0 ↔ x < y := by
  unfold cfI2
  split
  · rename_i h; exact ⟨fun _ => h, fun _ => by decide⟩
  · rename_i h
    split
    · exact ⟨fun q => absurd q (by decide), fun q => absurd q h⟩
    · exact ⟨fun q => absurd q (by decide), fun q => absurd q h⟩
theorem cf2_zero (x y : Int) : cfI2 x y = 0 ↔ x = y := by
  unfold cfI2
  split
  · rename_i h; exact ⟨fun q => absurd q (by decide), fun q => by omega⟩
  · rename_i h
    split
    · rename_i h2; exact ⟨fun q => absurd q (by decide), fun q => by omega⟩
    · rename_i h2; exact ⟨fun _ => by omega, fun _ => rfl⟩
def cfP (a b : Int × Int) : Int := if cfI2 a.1 b.1 ≠ 0 then cfI2 a.1 b.1 else cfI2 a.2 b.2
theorem cfP_lt (a b : Int × Int) : cfP a b < 0 ↔ ltP a b := by
  unfold cfP ltP
  split
  · rename_i h
    rw [cf2_lt]
    have : a.1 ≠ b.1 := fun e => h ((cf2_zero _ _).2 e)
    omega
  · rename_i h
    have : a.1 = b.1 := (cf2_zero _ _).1 (by simpa using h)
    rw [cf2_lt]; omega
theorem nan_int (x : Int) (w : World) : Calls Tryz.prog 90 #[.int .i64 x] w fun e w' => e = .returned (.bool false) ∧ w' = w := by
  have e : (x != x) = false := by simp
  go_enter Tryz.func90, Tryz.ntmps90
  go_wp2
  go_ret
  exact ⟨rfl, rfl⟩
theorem cmp_int (x y : Int) (w : World) : Calls Tryz.prog 59 #[.int .i64 x, .int .i64 y] w fun e w' => e = .returned (.int .i64 (cfI2 x y)) ∧ w' = w := by
  by_cases h1 : x < y
  · have E : Hid (cfI2 x y = -1) := (by unfold cfI2; rw [if_pos h1] : cfI2 x y = -1)
    go_enter Tryz.func59, Tryz.ntmps59
    go_wp2_with (go_at_call 90; refine (nan_int _ _).mono ?_; rintro e w' ⟨rfl, rfl⟩)
    go_ret
    exact ⟨ret_i E.out.symm, rfl⟩
  · by_cases h2 : y < x
    · have E : Hid (cfI2 x y = 1) := (by unfold cfI2; rw [if_neg h1, if_pos h2] : cfI2 x y = 1)
      go_enter Tryz.func59, Tryz.ntmps59
      go_wp2_with (go_at_call 90; refine (nan_int _ _).mono ?_; rintro e w' ⟨rfl, rfl⟩)
      go_ret
      exact ⟨ret_i E.out.symm, rfl⟩
    · have E : Hid (cfI2 x y = 0) := (by unfold cfI2; rw [if_neg h1, if_neg h2] : cfI2 x y = 0)
      go_enter Tryz.func59, Tryz.ntmps59
      go_wp2_with (go_at_call 90; refine (nan_int _ _).mono ?_; rintro e w' ⟨rfl, rfl⟩)
      go_ret
      exact ⟨ret_i E.out.symm, rfl⟩
theorem or_two (b : Nat) (x y : Int) (w : World) (h0 : w.cell? ⟨b, 0, none⟩ = some (.int .i64 x)) (h1 : w.cell? ⟨b, 1, none⟩ = some (.int .i64 y)) :
    Calls Tryz.prog 58 #[.slice (some ⟨b, 0, none⟩) 2 2] w fun e w' => e = .returned (.int .i64 (if x ≠ 0 then x else y)) ∧ w' = w := by
  have hl := cell_block h0
  by_cases hx : x = 0
  · subst hx
    by_cases hy : y = 0
    · subst hy
      go_enter Tryz.func58, Tryz.ntmps58
      go_wp2
      refine wp_loop_rounds 3 ?_
      rw [rounds_succ]
      go_wp2
      rw [rounds_succ]
      go_wp2
      rw [rounds_succ]
      go_wp2
      go_ret
      exact ⟨rfl, rfl⟩
    · go_enter Tryz.func58, Tryz.ntmps58
      go_wp2
      refine wp_loop_rounds 2 ?_
      rw [rounds_succ]
      go_wp2
      rw [rounds_succ]
      go_wp2
      go_ret
      exact ⟨by simp, rfl⟩
  · go_enter Tryz.func58, Tryz.ntmps58
    go_wp2
    refine wp_loop_rounds 1 ?_
    rw [rounds_succ]
    go_wp2
    go_ret
    exact ⟨rfl, rfl⟩
theorem grow_last (W : World) (os : Array Obj) (o : Obj) : ((grow W os).alloc o).drew = grow (W.drewN 1) (os ++ #[o]) := by rw [alloc_eq_grow, grow_grow]; rfl
def encW (x : Int × Int) : List Value := [.int .i64 x.1, .int .i64 x.2]

set_option maxRecDepth 100000 in
set_option maxHeartbeats 2000000 in
theorem rising_any (a b : Int × Int) (W : World) : Calls Tryz.prog 37 #[.agg #[.int .i64 a.1, .int .i64 a.2], .agg #[.int .i64 b.1, .int .i64 b.2]] W fun e w' => e = .returned (.int .i64 (cfP a b)) ∧ ∃ q os', w' = grow (W.drewN q) os' := by
  obtain ⟨a1, a2⟩ := a
  obtain ⟨b1, b2⟩ := b
  have HP : Hid (cfP (a1, a2) (b1, b2) = if cfI2 a1 b1 ≠ 0 then cfI2 a1 b1 else cfI2 a2 b2) := rfl
  obtain ⟨W1, hW1⟩ : ∃ W1, W1 = (W.alloc (.cells #[.int .i64 a1, .int .i64 a2] 56)).alloc (.cells #[.int .i64 b1, .int .i64 b2] 56) := ⟨_, rfl⟩
  have x0 : W1.cell? ⟨W.heap.size, 0, none⟩ = some (.int .i64 a1) := by rw [hW1]; simp
  have x1 : W1.cell? ⟨W.heap.size, 1, none⟩ = some (.int .i64 a2) := by rw [hW1]; simp
  have y0 : W1.cell? ⟨W.heap.size + 1, 0, none⟩ = some (.int .i64 b1) := by rw [hW1]; simp
  have y1 : W1.cell? ⟨W.heap.size + 1, 1, none⟩ = some (.int .i64 b2) := by rw [hW1]; simp
  have xl := cell_block x0
  have yl := cell_block y0
  have HG : Hid (∃ os, W1 = grow W os) := ⟨_, by rw [hW1, alloc_eq_grow, alloc_eq_grow, grow_grow]⟩
  go_enter Tryz.func37, Tryz.ntmps37
  go_upto_region 1 with fail
  rw [← hW1]
  clear hW1
  go_region_held3 (fun W' => W'.cell? ⟨W.heap.size, 0, none⟩ = some (.int .i64 a1) ∧ W'.cell? ⟨W.heap.size, 1, none⟩ = some (.int .i64 a2) ∧ W'.cell? ⟨W.heap.size + 1, 0, none⟩ = some (.int .i64 b1) ∧ W'.cell? ⟨W.heap.size + 1, 1, none⟩ = some (.int .i64 b2))
    (first
      | go_keep
      | assumption
      | (refine ⟨?_, ?_, ?_, ?_⟩ <;> simp [*]))
    (first
      | (go_at_call 59; refine (cmp_int _ _ _).mono ?_; rintro e w' ⟨rfl, hw'⟩; subst w')
      | (go_at_call 58; refine (or_two _ (cfI2 a1 b1) (cfI2 a2 b2) _ (by simp) (by simp)).mono ?_; rintro e w' ⟨he, hw'⟩; subst w'; rw [← HP.out] at he; subst he))
  all_goals
    go_wp2
    go_ret
    obtain ⟨os, hos⟩ := HG.out
    refine ⟨rfl, 1, os ++ #[.cells #[.int .i64 (cfI2 a1 b1), .int .i64 (cfI2 a2 b2)] 3], ?_⟩
    subst hos
    exact grow_last W os _
end Go.Proofs.YtpepbhmdfjpblaaGreatDoor

/- slices.SortFunc of pairs by board.rising: what lies there behind it. -/
namespace Go.Proofs.YtpepbhmdfjpblaaGreatDoor
open Go.ChangeShapes Go.WideShapes Go.ChangeAt Go.RowKit Go.Sort
set_option linter.unusedVariables false

theorem sw2_size (w : World) (blk off n : Nat) (dk : Array (Int × Int)) (os : Array Obj) : w.heap.size ≤ (sortWorldK encW 2 w blk off n dk os).heap.size := by
  simp [sortWorldK, putRowK, putRow, grow, mapBlock]
theorem sw2_block (w : World) (blk off n : Nat) (dk : Array (Int × Int)) (os : Array Obj) {b : Nat} (hb : b < w.heap.size) (hne : b ≠ blk) : (sortWorldK encW 2 w blk off n dk os).heap[b]? = w.heap[b]? := by
  simp [sortWorldK, putRowK, putRow, grow, mapBlock, Array.getElem?_append, hb]
  rw [Array.getElem_modify, if_neg (Ne.symm hne)]
theorem swo_pairs : SWO (Go.Proofs.ltOf cfP) := by
  refine ⟨fun x => ?_, fun x y z h1 h2 => ?_, fun x y z h1 h2 => ?_⟩
  · simp only [Go.Proofs.ltOf, decide_eq_false_iff_not, cfP_lt]; exact ltP_irrefl x
  · simp only [Go.Proofs.ltOf, decide_eq_true_eq, cfP_lt] at *; exact ltP_trans h1 h2
  · simp only [Go.Proofs.ltOf, decide_eq_false_iff_not, cfP_lt] at *
    intro q
    unfold ltP at *; omega
theorem enter_rising (args : Array Value) (w : World) : (callFunc 37 args).run Tryz.prog w = .ok (.enter 37 args) w := by kernel_rfl
theorem encW_len (x : Int × Int) : (encW x).length = 2 := rfl
theorem who_agg (w : World) : (isAgg 56).run Tryz.prog w = .ok true w := by kernel_rfl
theorem who_size (w : World) : (Go.sizeOf 56).run Tryz.prog w = .ok 2 w := by kernel_rfl
theorem getBangP (d : Array (Int × Int)) (j : Nat) (hj : j < d.size) : d[j]! = d.toList.getD j (0, 0) := by
  have h : d.toList.getD j (0, 0) = d.toList[j]'(by simpa using hj) := by simp [List.getD, hj]
  rw [h, getElem!_pos d j hj]; rfl
set_option maxHeartbeats 2000000 in
theorem sort_who (B blk cap : Nat) (L : List (Int × Int)) (w : World) (hrow : w.ownsRow B 56 2 (.slice (some ⟨blk, 0, none⟩) L.length cap) L.length (L.flatMap encW)) (hn : L.Nodup) (hl : L.length ≤ 100000) :
    Calls Tryz.prog 36 #[.slice (some ⟨blk, 0, none⟩) L.length cap, .func (.func 37) #[] #[]] w fun e w' =>
      e = .returned (.tuple #[]) ∧ ∃ L' : List (Int × Int), L'.Perm L ∧ L'.Pairwise ltP ∧ (∀ j, j < L'.length → w'.cell? ⟨blk, j * 2, none⟩ = some (.int .i64 (L'.getD j (0, 0)).1) ∧ w'.cell? ⟨blk, j * 2 + 1, none⟩ = some (.int .i64 (L'.getD j (0, 0)).2)) ∧
      w.heap.size ≤ w'.heap.size ∧ (∀ b, b < w.heap.size → b ≠ blk → w'.heap[b]? = w.heap[b]?) ∧ w'.os = w.os ∧ w'.tape = w.tape ∧ w'.output = w.output := by
  have hbx : ∃ cur, w.heap[blk]? = some (.cells cur 56 (0, 0)) := by
    rcases hrow.2 with ⟨h0, _⟩ | ⟨g, cap', cur, hv, _, hg, _⟩
    · cases h0
    · simp at hv
      obtain ⟨rfl, _⟩ := hv
      exact ⟨cur, hg⟩
  obtain ⟨cur, hg⟩ := hbx
  have hblk := lt_of_block hg
  have hH : HoldsK encW 2 w blk 0 L.toArray := by
    intro t ht
    have ht' : t < L.length * 2 := by simpa using ht
    refine ⟨?_, by simp [World.frozen?, hg]⟩
    rw [get_flatK encW 2 L.toArray t (by simpa using ht')]
    have hi : t / 2 < L.length := by omega
    have hr : t % 2 < 2 := Nat.mod_lt _ (by omega)
    have e2 : t / 2 * 2 + t % 2 = t := by omega
    have q := flat_get encW 2 encW_len (0, 0) L (t / 2) (t % 2) hi hr
    rw [e2] at q
    have hd : L.toArray[t / 2]! = L.getD (t / 2) (0, 0) := getBangP L.toArray (t / 2) (by simpa using hi)
    rw [hd]
    generalize L.getD (t / 2) (0, 0) = x at q
    have hx : (encW x)[t % 2]? = some ((encW x)[t % 2]!) := by
      rw [getElem!_pos (encW x) (t % 2) (by rw [encW_len]; exact hr)]
      exact List.getElem?_eq_getElem (by rw [encW_len]; exact hr)
    rw [hx] at q
    have := hrow.cells (g := blk) rfl t _ q
    rw [Addr.add_lit, Nat.zero_add] at this
    rw [Nat.zero_add]; exact this
  have hc : Go.Proofs.CmpLays Tryz.prog 37 #[] encW 2 cfP blk 0 L.toArray.size w := fun _ _ _ _ x y => rising_any x y _
  have hs := Go.Proofs.AnyQ.slices_SortFunc Go.Proofs.Tryz.sortK 2 who_agg who_size encW encW_len (fun x v hv => by simp [encW] at hv; rcases hv with rfl | rfl <;> rfl) cfP swo_pairs 37 #[] blk 0 cap L.toArray w enter_rising hc hH hblk (by simp; omega)
  refine Calls.mono hs ?_
  rintro e w' ⟨he, d', n, os, hp, hs, rfl⟩
  have hsz : d'.size = L.length := by have := hp.1; simpa using this
  have hpm : d'.toList.Perm L := by
    have := hp.2.2
    have e1 : (d'.extract 0 L.toArray.size) = d' := by rw [← hp.1]; simp
    have e2 : (L.toArray.extract 0 L.toArray.size) = L.toArray := by simp
    rw [e1, e2] at this
    simpa using this
  have hnd : d'.toList.Nodup := hpm.nodup_iff.2 hn
  refine ⟨he, d'.toList, hpm, ?_, fun j hj => ?_, sw2_size _ _ _ _ _ _, fun b hb hne => sw2_block _ _ _ _ _ _ hb hne, rfl, rfl, rfl⟩
  · rw [List.pairwise_iff_getElem]
    intro i j hi' hj' hij
    have hi2 : i < d'.size := by simpa using hi'
    have hj2 : j < d'.size := by simpa using hj'
    have q := hs i j (Nat.zero_le _) hij (by simp; omega)
    have ei : d'[i]! = d'.toList[i] := by rw [getElem!_pos d' i hi2]; rfl
    have ej : d'[j]! = d'.toList[j] := by rw [getElem!_pos d' j hj2]; rfl
    simp only [Go.Proofs.ltOf, decide_eq_false_iff_not, cfP_lt] at q
    rw [ei, ej] at q
    have hne : d'.toList[i] ≠ d'.toList[j] := List.pairwise_iff_getElem.1 hnd i j hi' hj' hij
    rcases ltP_total hne with z | z
    · exact z
    · exact absurd z q
  · have hj2 : j < d'.size := by simpa using hj
    have hk := holdsK_sortWorldK encW 2 w blk 0 n L.toArray d' os hblk hH hp.1
    have h0 := (hk.cell hj2 (c := 0) (by omega)).1
    have h1 := (hk.cell hj2 (c := 1) (by omega)).1
    rw [getBangP d' j hj2] at h0 h1
    simp only [Nat.zero_add, Nat.add_zero] at h0 h1
    exact ⟨h0, h1⟩
set_option maxHeartbeats 2000000 in
theorem sort_nilP (w : World) : Calls Tryz.prog 36 #[.slice none 0 0, .func (.func 37) #[] #[]] w fun e w' => e = .returned (.tuple #[]) ∧ w' = w := by
  have hl : Calls Tryz.prog 57 #[.int .u64 0] w fun e w' => e = .returned (.int .i64 0) ∧ w' = w := by
    have := Go.Proofs.Any.bits_Len (Go.Proofs.SlLaysF0.n15.bits (P := Tryz.prog) (ρ := Go.Proofs.Tryz.sortK_ren) { Go.Proofs.Tryz.sortK with }) 0 w (by omega) (by omega)
    exact this
  have hi : Calls Tryz.prog 80 #[.slice none 0 0, .int .i64 0, .int .i64 0, .func (.func 37) #[] #[]] w fun e w' => e = .returned (.tuple #[]) ∧ w' = w := by
    go_enter Tryz.func80, Tryz.ntmps80
    go_wp2
    refine wp_loop_rounds 1 ?_
    rw [rounds_succ]
    go_wp2
    go_end0
    exact ⟨rfl, rfl⟩
  have hq : Calls Tryz.prog 56 #[.slice none 0 0, .int .i64 0, .int .i64 0, .int .i64 0, .func (.func 37) #[] #[]] w fun e w' => e = .returned (.tuple #[]) ∧ w' = w := by
    go_enter Tryz.func56, Tryz.ntmps56
    go_wp2
    refine wp_loop_rounds 1 ?_
    rw [rounds_succ]
    go_wp2_with (go_at_call 80; refine hi.mono ?_; rintro e w' ⟨rfl, hw'⟩; subst w')
    refine bodyPost_ret (results_none rfl _ _ _) rfl ?_
    exact ⟨rfl, rfl⟩
  go_enter Tryz.func36, Tryz.ntmps36
  go_wp2_with (first | (go_at_call 57; refine hl.mono ?_; rintro e w' ⟨rfl, hw'⟩; subst w') | (go_at_call 56; refine hq.mono ?_; rintro e w' ⟨rfl, hw'⟩; subst w'))
  go_end0
  exact ⟨rfl, rfl⟩
end Go.Proofs.YtpepbhmdfjpblaaGreatDoor

/- Due. -/
namespace Go.Proofs.YtpepbhmdfjpblaaGreatDoor
open Go.ChangeShapes Go.WideShapes Go.ChangeAt Go.RowKit Go.Deep
open Go.ChangeMaps (setBlock)
set_option linter.unusedVariables false

theorem nodup_sub2 : ∀ (t l : List (Int × Int)), t.Nodup → (∀ x, x ∈ t → x ∈ l) → t.length ≤ l.length
  | [], l, _, _ => Nat.zero_le _
  | a :: t, l, hp, hs => by
    have ha : a ∈ l := hs a (by simp)
    obtain ⟨h1, h2⟩ := List.nodup_cons.1 hp
    have ih := nodup_sub2 t (l.erase a) h2 (fun x hx => (List.mem_erase_of_ne (show x ≠ a from fun e => h1 (by rw [← e]; exact hx))).2 (hs x (List.mem_cons_of_mem _ hx)))
    have := List.length_erase_of_mem ha
    have : 0 < l.length := List.length_pos_of_mem ha
    simp only [List.length_cons]
    omega
/-- Pairs of a slice. -/
structure WhIn (w : World) (v : Value) (L : List (Int × Int)) : Prop where
  shape : ∃ a c, v = .slice a L.length c ∧ L.length ≤ c ∧ (0 < L.length → ∃ g, a = some ⟨g, 0, none⟩ ∧ g < w.heap.size ∧ ∀ j, j < L.length → w.cell? ⟨g, j * 2, none⟩ = some (.int .i64 (L.getD j (0, 0)).1) ∧ w.cell? ⟨g, j * 2 + 1, none⟩ = some (.int .i64 (L.getD j (0, 0)).2))
theorem WhIn.kc {w w' : World} {v : Value} {L : List (Int × Int)} (h : WhIn w v L) (k : Kc w w') : WhIn w' v L := by
  obtain ⟨a, c, hv, hc, hh⟩ := h.shape
  refine ⟨a, c, hv, hc, fun hp => ?_⟩
  obtain ⟨g, ha, hg, hj⟩ := hh hp
  exact ⟨g, ha, Nat.lt_of_lt_of_le hg k.size, fun j hl => ⟨k.at (hj j hl).1, k.at (hj j hl).2⟩⟩
/-- Who takes an event, and didn't get it. -/
def DueK (S : List At) (G : List Bgf) (k : Int × Int) (y : Bev) (u : Bsb) : Prop := MatchOk S u.ps y.vs y.pay.size ∧ (u.key, k) ∉ G
/-- On the way. -/
structure DueSt (W wr : World) (gs r : Nat) (m : List ((Int × Int) × Value)) (P : Int × Int → Prop) (D L : List (Int × Int)) (v : Value) : Prop where
  it : ItK kv2 wr gs r m D
  bel : Below W.heap.size W wr
  row : wr.ownsRow (r + 1) 56 2 v L.length (L.flatMap encW)
  dn : D.Nodup
  dm : ∀ k ∈ D, k ∈ m.map (·.1)
  ln : L.Nodup
  lm : ∀ k, k ∈ L ↔ k ∈ D ∧ P k
theorem DueSt.le {W wr : World} {gs r : Nat} {m : List ((Int × Int) × Value)} {P : Int × Int → Prop} {D L : List (Int × Int)} {v : Value} (h : DueSt W wr gs r m P D L v) : L.length ≤ m.length := by
  have h1 := nodup_sub2 L D h.ln (fun x hx => ((h.lm x).1 hx).1)
  have h2 := nodup_sub2 D (m.map (·.1)) h.dn h.dm
  rw [List.length_map] at h2
  omega
theorem DueSt.lt {W wr : World} {gs r : Nat} {m : List ((Int × Int) × Value)} {P : Int × Int → Prop} {D L : List (Int × Int)} {v x : Value} (h : DueSt W wr gs r m P D L v) {k : Int × Int} (hm : (k, x) ∈ m) (hk : k ∉ D) : D.length < m.length := by
  have h2 := nodup_sub2 (D ++ [k]) (m.map (·.1)) (List.nodup_append.2 ⟨h.dn, by simp, fun a ha b hb e => by simp at hb; subst hb; subst e; exact hk ha⟩) (fun x hx => by
    rcases List.mem_append.1 hx with q | q
    · exact h.dm x q
    · simp at q; subst q; exact List.mem_map.2 ⟨_, hm, rfl⟩)
  simp at h2
  omega
theorem flat_snocW (L : List (Int × Int)) (k : Int × Int) : (L ++ [k]).flatMap encW = L.flatMap encW ++ encW k := by simp
theorem src_who (w : World) (k : Int × Int) : Src Tryz.prog 2 49 (.slice (some ⟨w.heap.size, 0, none⟩) 1 1) 1 (encW k) (w.alloc (.cells #[.int .i64 k.1, .int .i64 k.2] 56)) :=
  Src.ofSlice _ Tryz.underlying49 _ 1 1 _ rfl (fun j u hu => by
    exact World.news_of_block (cs := #[.int .i64 k.1, .int .i64 k.2]) (t := 56) (fr := (0, 0)) (heap_alloc_new w _) j u (by simpa [encW] using hu)) (by simp [encW, Value.oneCell'])
theorem Tryz.infoWho : (Tryz.prog.info? 56).map (fun i => (i.zero, i.size, i.bytes)) = some (some (.agg #[.int .i64 0, .int .i64 0]), 2, 16) := by kernel_rfl
theorem row_atB {w w' : World} {B : Nat} {e : TypeId} {k n : Nat} {vs : Value} {xs : List Value} (h : w.ownsRow B e k vs n xs) (hb : ∀ x, B ≤ x → w'.heap[x]? = w.heap[x]?) : w'.ownsRow B e k vs n xs := by
  refine ⟨h.1, ?_⟩
  rcases h.2 with h1 | ⟨g, cap, cur, hv, hbg, hg, hr⟩
  · exact .inl h1
  · exact .inr ⟨g, cap, cur, hv, hbg, (hb g hbg).trans hg, hr⟩
theorem below_setB {w W : World} {B g : Nat} (h : Below B w W) (hg : B ≤ g) (o : Obj) : Below B w (setBlock W g o) :=
  ⟨h.os, h.tape, h.output, by rw [setB_size]; exact h.size, fun b hb => (setB_other (by omega) o).trans (h.block b hb)⟩
theorem key_one {U : List Bsb} (hn : (U.map Bsb.key).Nodup) {u v : Bsb} (hu : u ∈ U) (hv : v ∈ U) (e : u.key = v.key) : u = v := by
  induction U with
  | nil => cases hu
  | cons a U ih =>
    obtain ⟨h1, h2⟩ := List.nodup_cons.1 hn
    rcases List.mem_cons.1 hu with rfl | hu'
    · rcases List.mem_cons.1 hv with rfl | hv'
      · rfl
      · exact absurd (List.mem_map.2 ⟨v, hv', e.symm⟩) h1
    · rcases List.mem_cons.1 hv with rfl | hv'
      · exact absurd (List.mem_map.2 ⟨u, hu', e⟩) h1
      · exact ih h2 hu' hv'
/-- One more has come. -/
theorem DueSt.skip {W wr w5 : World} {gs r : Nat} {m : List ((Int × Int) × Value)} {P : Int × Int → Prop} {D L : List (Int × Int)} {v x : Value} (h : DueSt W wr gs r m P D L v) {k : Int × Int} (hm : (k, x) ∈ m) (hk : k ∉ D) (hit : ItK kv2 w5 gs r m (D ++ [k])) (hb : Below W.heap.size W w5) (hrow : w5.ownsRow (r + 1) 56 2 v L.length (L.flatMap encW)) (hP : ¬ P k) : DueSt W w5 gs r m P (D ++ [k]) L v := by
  refine ⟨hit, hb, hrow, List.nodup_append.2 ⟨h.dn, by simp, fun a ha b hb e => by simp at hb; subst hb; subst e; exact hk ha⟩, fun y hy => ?_, h.ln, fun y => ?_⟩
  · rcases List.mem_append.1 hy with q | q
    · exact h.dm y q
    · simp at q; subst q; exact List.mem_map.2 ⟨_, hm, rfl⟩
  · rw [h.lm, List.mem_append, List.mem_singleton]
    constructor
    · exact fun q => ⟨.inl q.1, q.2⟩
    · rintro ⟨q1 | q1, q2⟩
      · exact ⟨q1, q2⟩
      · subst q1; exact absurd q2 hP
theorem DueSt.take {W wr w5 : World} {gs r : Nat} {m : List ((Int × Int) × Value)} {P : Int × Int → Prop} {D L : List (Int × Int)} {v v' x : Value} (h : DueSt W wr gs r m P D L v) {k : Int × Int} (hm : (k, x) ∈ m) (hk : k ∉ D) (hit : ItK kv2 w5 gs r m (D ++ [k])) (hb : Below W.heap.size W w5) (hrow : w5.ownsRow (r + 1) 56 2 v' (L ++ [k]).length ((L ++ [k]).flatMap encW)) (hP : P k) : DueSt W w5 gs r m P (D ++ [k]) (L ++ [k]) v' := by
  have hkL : k ∉ L := fun q => hk ((h.lm k).1 q).1
  refine ⟨hit, hb, hrow, List.nodup_append.2 ⟨h.dn, by simp, fun a ha b hb e => by simp at hb; subst hb; subst e; exact hk ha⟩, fun y hy => ?_, List.nodup_append.2 ⟨h.ln, by simp, fun a ha b hb e => by simp at hb; subst hb; subst e; exact hkL ha⟩, fun y => ?_⟩
  · rcases List.mem_append.1 hy with q | q
    · exact h.dm y q
    · simp at q; subst q; exact List.mem_map.2 ⟨_, hm, rfl⟩
  · rw [List.mem_append, List.mem_append, List.mem_singleton, h.lm]
    constructor
    · rintro (q | q)
      · exact ⟨.inl q.1, q.2⟩
      · subst q; exact ⟨.inr rfl, hP⟩
    · rintro ⟨q1 | q1, q2⟩
      · exact .inl ⟨q1, q2⟩
      · exact .inr q1
/-- What Due answers. -/
def BDue (e : Ending) (w' : World) (S : List At) (E : List Bev) (U : List Bsb) (G : List Bgf) (k : Int × Int) : Prop :=
  ((∀ y ∈ E, y.key ≠ k) ∧ e = .returned (.tuple #[.slice none 0 0, .iface 36 (.int .i64 9)])) ∨
  ∃ y ∈ E, y.key = k ∧ ∃ v L, e = .returned (.tuple #[v, .nilIface]) ∧ DueL U (DueK S G k y) L ∧ WhIn w' v L

set_option maxRecDepth 100000 in
set_option maxHeartbeats 8000000 in
theorem bdue_any (p ge gs gg : Nat) (S : List At) (E : List Bev) (U : List Bsb) (G : List Bgf) (pub seq : Int) (w : World) (h : BdAt w p ge gs gg S E U G) (hU : U.length ≤ 1000) :
    Calls Tryz.prog 14 #[.pointer (some ⟨p, 0, none⟩), .int .i64 pub, .int .i64 seq] w fun e w' => BDue e w' S E U G (pub, seq) ∧ Below w.heap.size w w' := by
  obtain ⟨i0, hif, hz0, hz1, hz2⟩ := info_parts Tryz.infoWho
  obtain ⟨W1, hW1⟩ : ∃ W1, W1 = w.alloc (.cells #[.int .i64 pub, .int .i64 seq] 100) := ⟨_, rfl⟩
  have b1 : Below w.heap.size w W1 := by rw [hW1]; exact b_one _ _
  have s0 : W1.cell? ⟨w.heap.size, 0, none⟩ = some (.int .i64 pub) := by rw [hW1]; exact World.cell?_alloc_new ..
  have s1 : W1.cell? ⟨w.heap.size, 1, none⟩ = some (.int .i64 seq) := by rw [hW1]; simp
  have H1 : Hid (BdAt W1 p ge gs gg S E U G ∧ Below w.heap.size w W1 ∧ U.length ≤ 1000) := ⟨h.below b1, b1, hU⟩
  clear h b1 hU
  generalize hq : w.heap.size = q at s0 s1
  have sl := cell_block s0
  have HQ : Hid (w.heap.size = q) := hq
  obtain ⟨sa, sc, _, c0, c1, c2, c3, cl⟩ := H1.out.1.cells
  obtain ⟨ya, yn, yc, yp, eb, hlk, HEV⟩ := H1.out.1.look_ev (pub, seq)
  have hk1 := hlk W1.drew (b_drew W1)
  have hk2 := hlk (W1.alloc (.cells #[.slice none 0 0, .string ⟨#[]⟩] 44)).drew ((b_one W1 _).trans (show Below W1.heap.size _ _ from ⟨rfl, rfl, rfl, Nat.le_refl _, fun _ _ => rfl⟩))
  simp only at hk1 hk2
  clear hlk
  go_enter Tryz.func14, Tryz.ntmps14
  go_upto_region 2 with fail
  rw [← hW1]
  try rw [hq]
  clear hW1 hq
  go_cut [9, 10] (fun a b wx => ∃ q3 : Nat, a = .pointer (some ⟨q3, 0, none⟩) ∧ b = .bool eb ∧ Hid (Below W1.heap.size W1 wx ∧ wx.cell? ⟨q3, 0, none⟩ = some (.slice ya yn yc) ∧ wx.cell? ⟨q3, 1, none⟩ = some (.string yp)))
  case first =>
    go_region
    all_goals
      go_wp2
      go_meet
      exact ⟨_, rfl, rfl, ⟨⟨rfl, rfl, rfl, by simp, fun k hk => Below.heap_alloc _ _ _ hk⟩, by simp, by simp⟩⟩
  case rest =>
    rename World => W3
    obtain ⟨q3, rfl, rfl, HC⟩ := hcut
    obtain ⟨hb3, v0, v1⟩ := HC.out
    have H3 : Hid (BdAt W3 p ge gs gg S E U G ∧ Below w.heap.size w W3 ∧ Below W1.heap.size W1 W3) := ⟨H1.out.1.below hb3, H1.out.2.1.trans (hb3.mono H1.out.2.1.size), hb3⟩
    clear hk1 hk2 c0 c1 c2 c3 cl HC
    replace s0 := cell_grown s0 hb3
    replace s1 := cell_grown s1 hb3
    replace sl := cell_block s0
    have vl := cell_block v0
    clear hb3
    rcases HEV.out with ⟨rfl, hno⟩ | ⟨rfl, y, hy, hyk, rfl, hyv⟩
    · have HN : Hid (∀ e ∈ E, e.key ≠ (pub, seq)) := hno
      clear hno
      go_wp2
      go_ret2
      exact ⟨.inl ⟨HN.out, rfl⟩, by rw [← HQ.out]; exact H3.out.2.1⟩
    · have HY : Hid (y ∈ E ∧ y.key = (pub, seq) ∧ VlIn W3 (.slice ya yn yc) y.vs) := ⟨hy, hyk, hyv.below H3.out.2.2⟩
      obtain ⟨yp, hyp⟩ : ∃ yp, yp = y.pay := ⟨_, rfl⟩
      rw [← hyp] at v1
      have HYP : Hid (yp = y.pay) := hyp
      obtain ⟨m, hm, hr⟩ := H3.out.1.sb
      have HR : Hid (Rel2 (SbR W3) m U) := hr
      have HML : Hid (m.length = U.length) := rel2_len _ _ hr
      obtain ⟨o, hrun, hit⟩ := hm.start (P := Tryz.prog) Tryz.underlying83
      obtain ⟨r, hrr⟩ : ∃ r, r = W3.heap.size := ⟨_, rfl⟩
      obtain ⟨W4, hW4⟩ : ∃ W4, W4 = W3.alloc o := ⟨_, rfl⟩
      rw [← hW4, ← hrr] at hrun hit
      have HRR : Hid (r = W3.heap.size) := hrr
      have H4 : Hid (∃ D L, D.length = 0 ∧ DueSt W3 W4 gs r m (fun k => ∃ u ∈ U, u.key = k ∧ DueK S G (pub, seq) y u) D L (.slice none 0 0)) :=
        ⟨[], [], rfl, hit, by rw [hW4]; exact b_one _ _, World.ownsRow_nil _ _ _ _, List.nodup_nil, fun k hk => (by cases hk), List.nodup_nil, fun k => by simp⟩
      obtain ⟨sa, sc, hsA, c0, c1, c2, c3, cl⟩ := H3.out.1.cells
      have HSA : Hid (AtIn W3 (.slice sa S.length sc) S) := hsA
      have HC0 : Hid (W3.cell? ⟨p, 0, none⟩ = some (.slice sa S.length sc) ∧ W3.cell? ⟨q, 0, none⟩ = some (.int .i64 pub) ∧ W3.cell? ⟨q, 1, none⟩ = some (.int .i64 seq) ∧ W3.cell? ⟨q3, 0, none⟩ = some (.slice ya yn yc) ∧ W3.cell? ⟨q3, 1, none⟩ = some (.string yp)) := ⟨c0, s0, s1, v0, v1⟩
      clear hy hyk hyv hyp hm hr hit hW4 hrr hsA
      go_wp2
      clear hrun c0 c1 c2 c3 cl s0 s1 sl v0 v1 vl
      go_loopg [11] m.length (fun kx v wr => ∃ (a : Option Addr) (n c : Nat), v = .slice a n c ∧ Hid (∃ D L, kx = m.length - D.length ∧ L.length = n ∧ DueSt W3 wr gs r m (fun k => ∃ u ∈ U, u.key = k ∧ DueK S G (pub, seq) y u) D L (.slice a n c)))
      case atStart =>
        obtain ⟨D, L, h0, hd⟩ := H4.out
        have hL : L.length = 0 := by
          have := nodup_sub2 L D hd.ln (fun x hx => ((hd.lm x).1 hx).1)
          omega
        exact ⟨none, 0, 0, rfl, ⟨D, L, by rw [h0]; rfl, hL, hd⟩⟩
      case round =>
        obtain ⟨va, vn, vc, rfl, HB⟩ := hrel
        clear H4
        obtain ⟨D, L, hkx, hLn, hd⟩ := HB.out
        have HKX : Hid (_ = m.length - D.length ∧ L.length = vn) := ⟨hkx, hLn⟩
        have HD : Hid (DueSt W3 wr gs r m (fun k => ∃ u ∈ U, u.key = k ∧ DueK S G (pub, seq) y u) D L (.slice va vn vc)) := hd
        clear HB hkx hLn
        rcases hd.it.next (P := Tryz.prog) with ⟨hall, hrun⟩ | ⟨k, x, w5, hkm, hkD, hrun, hit5, hent, w5', o5, hw5', hw5⟩
        · have HAL : Hid (∀ k, k ∈ L ↔ ∃ u ∈ U, u.key = k ∧ DueK S G (pub, seq) y u) := fun k => by
            rw [HD.out.lm]
            refine ⟨fun z => z.2, fun z => ⟨?_, z⟩⟩
            obtain ⟨u, hu, hk, _⟩ := z
            obtain ⟨pp, hpp, hpr⟩ := rel2_right _ _ HR.out u hu
            have := hall pp hpp
            rw [hpr.1, hk] at this
            exact this
          clear hall hd
          rcases HD.out.row.2 with ⟨hv, hn0⟩ | ⟨g, cap', cur, hv, hBg, hg, hnc, _⟩
          · simp at hv
            obtain ⟨rfl, rfl, rfl⟩ := hv
            have hL0 : L = [] := List.eq_nil_of_length_eq_zero (by have := HKX.out.2; omega)
            have HL0 : Hid (L = []) := hL0
            clear hn0 hL0
            go_wp2_with (go_at_call 36; refine (sort_nilP _).mono ?_; rintro e w' ⟨rfl, hw'⟩; subst w')
            go_ret2
            have hb := H3.out.2.1.trans (HD.out.bel.mono H3.out.2.1.size)
            refine ⟨.inr ⟨y, HY.out.1, HY.out.2.1, .slice none 0 0, [], rfl, ⟨List.Pairwise.nil, fun k => ?_⟩, ⟨none, 0, rfl, Nat.le_refl _, fun h => by simp at h⟩⟩, by rw [← HQ.out]; exact hb⟩
            have := HAL.out k
            rw [HL0.out] at this
            exact this
          · simp at hv
            obtain ⟨rfl, _, rfl⟩ := hv
            have hll : L.length ≤ 100000 := by have := HD.out.le; have := HML.out; have := H1.out.2.2; omega
            have hLn := HKX.out.2
            subst hLn
            have HSW := sort_who (r + 1) g vc L wr HD.out.row HD.out.ln hll
            have HG : Hid (r + 1 ≤ g ∧ L.length ≤ vc) := ⟨hBg, hnc⟩
            have HS2 : Hid _ := HSW
            clear hBg hg hnc hll HSW
            go_wp2_with fail
            refine Calls.mono HS2.out ?_
            rintro e w9 ⟨rfl, L', hperm, hsort, hcells, hsz, hblk, hos, htp, hou⟩
            have HF : Hid (L'.Perm L ∧ L'.Pairwise ltP ∧ WhIn w9 (.slice (some ⟨g, 0, none⟩) L.length vc) L' ∧ Below w.heap.size w w9) := by
              have hl' : L'.length = L.length := hperm.length_eq
              have hb := H3.out.2.1.trans (HD.out.bel.mono H3.out.2.1.size)
              have hr3 := HRR.out
              have hw3 := H3.out.2.1.size
              have hgl : g < w9.heap.size := by
                rcases HD.out.row.2 with ⟨hv, _⟩ | ⟨g2, _, _, hv, _, hg2, _⟩
                · cases hv
                · simp at hv
                  obtain ⟨rfl, _⟩ := hv
                  exact Nat.lt_of_lt_of_le (lt_of_block hg2) hsz
              refine ⟨hperm, hsort, ⟨some ⟨g, 0, none⟩, vc, by rw [hl'], by rw [hl']; exact HG.out.2, fun _ => ⟨g, rfl, hgl, hcells⟩⟩, ⟨hos.trans hb.os, htp.trans hb.tape, hou.trans hb.output, Nat.le_trans hb.size hsz, fun b hbl => (hblk b (Nat.lt_of_lt_of_le hbl hb.size) (by have := HG.out.1; omega)).trans (hb.block b hbl)⟩⟩
            clear hperm hsort hcells hsz hblk hos htp hou
            go_wp2
            go_ret2
            exact ⟨.inr ⟨y, HY.out.1, HY.out.2.1, _, L', rfl, ⟨HF.out.2.1, fun k => by rw [HF.out.1.mem_iff]; exact HAL.out k⟩, HF.out.2.2.1⟩, by rw [← HQ.out]; exact HF.out.2.2.2⟩
        · obtain ⟨u, hu, hku, hux⟩ := rel2_left _ _ HR.out _ hkm
          simp only at hku hux
          obtain ⟨fa, fc, rfl, _⟩ := hux.shape
          obtain ⟨k1, k2⟩ := k
          simp only [kv2] at hrun hent
          have hb5 : Below W3.heap.size W3 w5 := by
            rw [hw5]
            refine below_setB ?_ (by rw [HRR.out]; exact Nat.le_refl _) _
            rcases hw5' with rfl | rfl
            · exact hd.bel
            · exact hd.bel.trans (show Below W3.heap.size wr wr.drew from ⟨rfl, rfl, rfl, Nat.le_refl _, fun _ _ => rfl⟩)
          have hrow5 : w5.ownsRow (r + 1) 56 2 (.slice va vn vc) L.length (L.flatMap encW) := by
            refine row_atB hd.row (fun z hz => ?_)
            rw [hw5, setB_other (by omega)]
            rcases hw5' with rfl | rfl <;> rfl
          obtain ⟨fn, hfn⟩ : ∃ fn, fn = u.ps.length := ⟨_, rfl⟩
          rw [← hfn] at hent hrun hux
          have HK : Hid (((k1, k2), Value.slice fa u.ps.length fc) ∈ m ∧ (k1, k2) ∉ D ∧ u ∈ U ∧ u.key = (k1, k2) ∧ PdIn W3 (.slice fa fn fc) u.ps) := ⟨hkm, hkD, hu, hku.symm, hux⟩
          obtain ⟨W6, hW6⟩ : ∃ W6, W6 = w5.alloc (.cells #[.int .i64 k1, .int .i64 k2] 56) := ⟨_, rfl⟩
          obtain ⟨qw, hqw⟩ : ∃ qw, qw = w5.heap.size := ⟨_, rfl⟩
          have b6 : Below w5.heap.size w5 W6 := by rw [hW6]; exact b_one _ _
          have t0 : W6.cell? ⟨qw, 0, none⟩ = some (.int .i64 k1) := by rw [hW6, hqw]; exact World.cell?_alloc_new ..
          have t1 : W6.cell? ⟨qw, 1, none⟩ = some (.int .i64 k2) := by rw [hW6, hqw]; simp
          have H6 : Hid (ItK kv2 W6 gs r m (D ++ [(k1, k2)]) ∧ Below W3.heap.size W3 W6 ∧ W6.ownsRow (r + 1) 56 2 (.slice va vn vc) L.length (L.flatMap encW)) := ⟨hit5.of_blocks (b6.block _ hit5.mp.lt) (b6.block _ hit5.lt), hb5.trans (b6.mono hb5.size), own_carry hrow5 b6⟩
          clear hkm hkD hu hku hux hfn hd hit5 hw5 hw5' hb5 hrow5 b6
          go_upto_region 9 with fail
          rw [← hW6]
          try rw [← hqw]
          clear hW6 hqw hrun hent
          have c0 := cell_grown HC0.out.1 H6.out.2.1
          have s0 := cell_grown HC0.out.2.1 H6.out.2.1
          have s1 := cell_grown HC0.out.2.2.1 H6.out.2.1
          have v0 := cell_grown HC0.out.2.2.2.1 H6.out.2.1
          have v1 := cell_grown HC0.out.2.2.2.2 H6.out.2.1
          have cl := cell_block c0
          have sl := cell_block s0
          have vl := cell_block v0
          have tl := cell_block t0
          have HMT : ∀ W, Below W6.heap.size W6 W → Calls Tryz.prog 34 #[.slice sa S.length sc, .slice fa fn fc, .agg #[.slice ya yn yc, .string yp]] W fun e w' => Says e (MatchOk S u.ps y.vs y.pay.size) ∧ Below W6.heap.size W6 w' ∧ Below W.heap.size W w' := fun W hW => by
            have hb : Below W3.heap.size W3 W := H6.out.2.1.trans (hW.mono H6.out.2.1.size)
            have hmt := bmatch (H3.out.1.below hb) (HSA.out.below hb) HK.out.2.2.1 HY.out.1 (HK.out.2.2.2.2.below hb) (HY.out.2.2.below hb)
            rw [← HYP.out] at hmt ⊢
            refine hmt.mono ?_
            rintro e w' ⟨h1, h2⟩
            exact ⟨h1, hW.trans (h2.mono hW.size), h2⟩
          have HUQ : Hid (∀ u' ∈ U, u'.key = (k1, k2) → u' = u) := fun u' hu' e => by
            have hn : (U.map Bsb.key).Nodup := by
              rw [← keys_rel (key := Bsb.key) (fun p b q => q.1) HR.out]; exact HD.out.it.nodup
            exact key_one hn hu' HK.out.2.2.1 (by rw [e, HK.out.2.2.2.1])
          by_cases hm : MatchOk S u.ps y.vs y.pay.size
          · have HMT2 : Hid (∀ W, Below W6.heap.size W6 W → Calls Tryz.prog 34 #[.slice sa S.length sc, .slice fa fn fc, .agg #[.slice ya yn yc, .string yp]] W fun e w' => e = .returned (.bool true) ∧ Below W6.heap.size W6 w') := fun W hW => (HMT W hW).mono (fun e w' z => ⟨z.1.t hm, z.2.1⟩)
            by_cases hg : ((k1, k2), (pub, seq)) ∈ G
            · have HHS : Hid (∀ W, Below W6.heap.size W6 W → Calls Tryz.prog 35 #[.pointer (some ⟨p, 0, none⟩), .agg #[.int .i64 k1, .int .i64 k2], .agg #[.int .i64 pub, .int .i64 seq]] W fun e w' => e = .returned (.bool true) ∧ Below W6.heap.size W6 w') := fun W hW => by
                have hb : Below W3.heap.size W3 W := H6.out.2.1.trans (hW.mono H6.out.2.1.size)
                refine (bhas_any p ge gs gg S E U G k1 k2 pub seq W (H3.out.1.below hb)).mono ?_
                rintro e w' ⟨h1, h2⟩
                exact ⟨by rw [h1, decide_eq_true hg], hW.trans (h2.mono hW.size)⟩
              have HNP : Hid (¬ ∃ u ∈ U, u.key = (k1, k2) ∧ DueK S G (pub, seq) y u) := by
                rintro ⟨u', h1, h2, h3, h4⟩
                exact h4 (by rw [h2]; exact hg)
              clear HMT hm hg
              go_cut [52] (fun v wx => v = .bool false ∧ Hid (Below W6.heap.size W6 wx))
              case first =>
                go_region_held3 (fun W' => W'.cell? ⟨p, 0, none⟩ = some (.slice sa S.length sc) ∧ W'.cell? ⟨q3, 0, none⟩ = some (.slice ya yn yc) ∧ W'.cell? ⟨q3, 1, none⟩ = some (.string yp) ∧ W'.cell? ⟨qw, 0, none⟩ = some (.int .i64 k1) ∧ W'.cell? ⟨qw, 1, none⟩ = some (.int .i64 k2) ∧ W'.cell? ⟨q, 0, none⟩ = some (.int .i64 pub) ∧ W'.cell? ⟨q, 1, none⟩ = some (.int .i64 seq))
                  (first
                    | go_keep
                    | assumption)
                  (first
                    | (go_at_call 34; refine Calls.mono (HMT2.out _ ?_) ?_; exact ⟨rfl, rfl, rfl, Nat.le_refl _, fun _ _ => rfl⟩; rintro e wM ⟨rfl, hM⟩
                       have BM : Hid (Below W6.heap.size W6 wM) := hM
                       have zm0 := cell_grown c0 hM
                       have zm1 := cell_grown v0 hM
                       have zm2 := cell_grown v1 hM
                       have zm3 := cell_grown t0 hM
                       have zm4 := cell_grown t1 hM
                       have zm5 := cell_grown s0 hM
                       have zm6 := cell_grown s1 hM
                       have zml := cell_block zm0
                       have zmk := cell_block zm1
                       have zmj := cell_block zm3
                       have zmi := cell_block zm5
                       clear hM)
                    | (go_at_call 35; refine Calls.mono (HHS.out _ ?_) ?_; exact BM.out; rintro e wH ⟨rfl, hH⟩
                       have BH : Hid (Below W6.heap.size W6 wH) := hH
                       have zh0 := cell_grown c0 hH
                       have zh1 := cell_grown v0 hH
                       have zh2 := cell_grown v1 hH
                       have zh3 := cell_grown t0 hH
                       have zh4 := cell_grown t1 hH
                       have zh5 := cell_grown s0 hH
                       have zh6 := cell_grown s1 hH
                       have zhl := cell_block zh0
                       have zhk := cell_block zh1
                       have zhj := cell_block zh3
                       have zhi := cell_block zh5
                       clear hH))
                all_goals
                  go_wp2
                  go_meet
                  exact ⟨rfl, BH⟩
              case rest =>
                rename World => W7
                obtain ⟨rfl, HB7⟩ := hcut
                clear c0 v0 v1 t0 t1 s0 s1 cl vl tl sl HMT2 HHS
                have HS7 : Hid (DueSt W3 W7 gs r m (fun k => ∃ u ∈ U, u.key = k ∧ DueK S G (pub, seq) y u) (D ++ [(k1, k2)]) L (.slice va vn vc)) := HD.out.skip HK.out.1 HK.out.2.1 (H6.out.1.of_blocks (HB7.out.block _ (H6.out.1.mp.lt)) (HB7.out.block _ (H6.out.1.lt))) (H6.out.2.1.trans (HB7.out.mono H6.out.2.1.size)) (own_carry H6.out.2.2 HB7.out) HNP.out
                go_wp2
                go_roundg (m.length - (D.length + 1))
                case measure =>
                  have z1 := HKX.out.1
                  have z2 := HD.out.lt HK.out.1 HK.out.2.1
                  omega
                case rel => exact ⟨va, vn, vc, rfl, ⟨D ++ [(k1, k2)], L, by simp, HKX.out.2, HS7.out⟩⟩
            · have HHS : Hid (∀ W, Below W6.heap.size W6 W → Calls Tryz.prog 35 #[.pointer (some ⟨p, 0, none⟩), .agg #[.int .i64 k1, .int .i64 k2], .agg #[.int .i64 pub, .int .i64 seq]] W fun e w' => e = .returned (.bool false) ∧ Below W6.heap.size W6 w') := fun W hW => by
                have hb : Below W3.heap.size W3 W := H6.out.2.1.trans (hW.mono H6.out.2.1.size)
                refine (bhas_any p ge gs gg S E U G k1 k2 pub seq W (H3.out.1.below hb)).mono ?_
                rintro e w' ⟨h1, h2⟩
                exact ⟨by rw [h1, decide_eq_false hg], hW.trans (h2.mono hW.size)⟩
              have HNP : Hid (∃ u ∈ U, u.key = (k1, k2) ∧ DueK S G (pub, seq) y u) := ⟨u, HK.out.2.2.1, HK.out.2.2.2.1, hm, by rw [HK.out.2.2.2.1]; exact hg⟩
              clear HMT hm hg
              go_cut [52] (fun v wx => v = .bool true ∧ Hid (Below W6.heap.size W6 wx))
              case first =>
                go_region_held3 (fun W' => W'.cell? ⟨p, 0, none⟩ = some (.slice sa S.length sc) ∧ W'.cell? ⟨q3, 0, none⟩ = some (.slice ya yn yc) ∧ W'.cell? ⟨q3, 1, none⟩ = some (.string yp) ∧ W'.cell? ⟨qw, 0, none⟩ = some (.int .i64 k1) ∧ W'.cell? ⟨qw, 1, none⟩ = some (.int .i64 k2) ∧ W'.cell? ⟨q, 0, none⟩ = some (.int .i64 pub) ∧ W'.cell? ⟨q, 1, none⟩ = some (.int .i64 seq))
                  (first
                    | go_keep
                    | assumption)
                  (first
                    | (go_at_call 34; refine Calls.mono (HMT2.out _ ?_) ?_; exact ⟨rfl, rfl, rfl, Nat.le_refl _, fun _ _ => rfl⟩; rintro e wM ⟨rfl, hM⟩
                       have BM : Hid (Below W6.heap.size W6 wM) := hM
                       have zm0 := cell_grown c0 hM
                       have zm1 := cell_grown v0 hM
                       have zm2 := cell_grown v1 hM
                       have zm3 := cell_grown t0 hM
                       have zm4 := cell_grown t1 hM
                       have zm5 := cell_grown s0 hM
                       have zm6 := cell_grown s1 hM
                       have zml := cell_block zm0
                       have zmk := cell_block zm1
                       have zmj := cell_block zm3
                       have zmi := cell_block zm5
                       clear hM)
                    | (go_at_call 35; refine Calls.mono (HHS.out _ ?_) ?_; exact BM.out; rintro e wH ⟨rfl, hH⟩
                       have BH : Hid (Below W6.heap.size W6 wH) := hH
                       have zh0 := cell_grown c0 hH
                       have zh1 := cell_grown v0 hH
                       have zh2 := cell_grown v1 hH
                       have zh3 := cell_grown t0 hH
                       have zh4 := cell_grown t1 hH
                       have zh5 := cell_grown s0 hH
                       have zh6 := cell_grown s1 hH
                       have zhl := cell_block zh0
                       have zhk := cell_block zh1
                       have zhj := cell_block zh3
                       have zhi := cell_block zh5
                       clear hH))
                all_goals
                  go_wp2
                  go_meet
                  exact ⟨rfl, BH⟩
              case rest =>
                rename World => W7
                obtain ⟨rfl, HB7⟩ := hcut
                replace t0 := cell_grown t0 HB7.out
                replace t1 := cell_grown t1 HB7.out
                replace tl := cell_block t0
                clear c0 v0 v1 s0 s1 cl vl sl HMT2 HHS
                have H7 : Hid (ItK kv2 W7 gs r m (D ++ [(k1, k2)]) ∧ Below W3.heap.size W3 W7 ∧ W7.ownsRow (r + 1) 56 2 (.slice va vn vc) L.length (L.flatMap encW) ∧ r + 1 ≤ W7.heap.size) := ⟨H6.out.1.of_blocks (HB7.out.block _ (H6.out.1.mp.lt)) (HB7.out.block _ (H6.out.1.lt)), H6.out.2.1.trans (HB7.out.mono H6.out.2.1.size), own_carry H6.out.2.2 HB7.out, Nat.le_trans (Nat.succ_le_of_lt H6.out.1.lt) HB7.out.size⟩
                have hLn := HKX.out.2
                have hll : L.length ≤ 1000 := by have := HD.out.le; have := HML.out; have := H1.out.2.2; omega
                have HA : Hid ((W7.alloc (.cells #[.int .i64 k1, .int .i64 k2] 56)).ownsRow (r + 1) 56 2 (.slice va vn vc) vn (L.flatMap encW)) := by
                  have q9 := own_carry H7.out.2.2.1 (b_one W7 (.cells #[.int .i64 k1, .int .i64 k2] 56))
                  rw [hLn] at q9
                  exact q9
                have hvn : vn ≤ 1000 := by omega
                clear hLn hll
                go_wp2_with (at_builtin; refine wpList_own_append2 _ rfl _ _ 49 49 rfl (r + 1) 56 i0 _ 16 Tryz.underlying49 hif hz0 hz1 hz2 rfl _ _ _ rfl HA.out _ 1 (encW (k1, k2)) rfl (src_who W7 (k1, k2)) ?c3 ?c4 ?c5 ?_)
                case c3 => unfold maxLen; omega
                case c4 => omega
                case c5 => have := H7.out.2.2.2; simp; omega
                intro v' w8 ha
                obtain ⟨a', c', rfl⟩ := ha.shape
                have H8 : Hid (DueSt W3 w8 gs r m (fun k => ∃ u ∈ U, u.key = k ∧ DueK S G (pub, seq) y u) (D ++ [(k1, k2)]) (L ++ [(k1, k2)]) (.slice a' (vn + 1) c')) := by
                  have hgr := ha.grown
                  have hkeep : ∀ z, z ≤ r → w8.heap[z]? = W7.heap[z]? := fun z hz => by
                    have h1 : z < (W7.alloc (.cells #[.int .i64 k1, .int .i64 k2] 56)).heap.size := by have := H7.out.2.2.2; simp; omega
                    rw [hgr.block z h1 (fun e => ?_), Below.heap_alloc _ _ _ (by have := H7.out.2.2.2; omega)]
                    have := (World.ownsRow.lt HA.out z e.symm).1
                    omega
                  have hit8 : ItK kv2 w8 gs r m (D ++ [(k1, k2)]) := H7.out.1.of_blocks (hkeep _ (by have := H3.out.1.lts; have := HRR.out; omega)) (hkeep _ (Nat.le_refl _))
                  have hb8 : Below W3.heap.size W3 w8 := by
                    have hb7 := H7.out.2.1
                    have hr3 := HRR.out
                    refine ⟨hgr.os.trans hb7.os, hgr.tape.trans hb7.tape, hgr.output.trans hb7.output, Nat.le_trans hb7.size (Nat.le_trans (by simp) hgr.size), fun z hz => (hkeep z (by omega)).trans (hb7.block z hz)⟩
                  refine HD.out.take HK.out.1 HK.out.2.1 hit8 hb8 ?_ HNP.out
                  have hr8 := ha.row
                  rw [flat_snocW, List.length_append, HKX.out.2]
                  exact hr8
                clear ha HA
                go_wp2
                go_roundg (m.length - (D.length + 1))
                case measure =>
                  have z1 := HKX.out.1
                  have z2 := HD.out.lt HK.out.1 HK.out.2.1
                  omega
                case rel => exact ⟨a', vn + 1, c', by simp, ⟨D ++ [(k1, k2)], L ++ [(k1, k2)], by simp, by simp [HKX.out.2], H8.out⟩⟩
          · have HMT2 : Hid (∀ W, Below W6.heap.size W6 W → Calls Tryz.prog 34 #[.slice sa S.length sc, .slice fa fn fc, .agg #[.slice ya yn yc, .string yp]] W fun e w' => e = .returned (.bool false) ∧ Below W.heap.size W w') := fun W hW => (HMT W hW).mono (fun e w' z => ⟨z.1.f hm, z.2.2⟩)
            have HHS : Hid True := trivial
            have HNP : Hid (¬ ∃ u ∈ U, u.key = (k1, k2) ∧ DueK S G (pub, seq) y u) := by
              rintro ⟨u', h1, h2, h3, h4⟩
              rw [HUQ.out u' h1 h2] at h3
              exact hm h3
            clear HMT hm
            go_cut [52] (fun v wx => v = .bool false ∧ Hid (Below W6.heap.size W6 wx))
            case first =>
              obtain ⟨ι, F, _, hF0, hFb, hFc⟩ := grown_fam W6
              have f0 : ∀ i, (F i).cell? ⟨p, 0, none⟩ = _ := fun i => cell_grown c0 (hFb i)
              have f1 : ∀ i, (F i).cell? ⟨q3, 0, none⟩ = _ := fun i => cell_grown v0 (hFb i)
              have f2 : ∀ i, (F i).cell? ⟨q3, 1, none⟩ = _ := fun i => cell_grown v1 (hFb i)
              have HF : Hid ((∃ i, { W6 with drawn := W6.drawn + 1 } = F i) ∧ (∀ i, Below W6.heap.size W6 (F i)) ∧ (∀ i W, Below W6.heap.size (F i) W → ∃ j, W = F j)) := ⟨hF0, hFb, hFc⟩
              clear hF0 hFb hFc
              refine wp_region_fam F HF.out.1 (by kernel_rfl) (by kernel_rfl) ?_
              repeat (go_big_quiet_step ((go_at_call 34; refine Calls.mono (HMT2.out _ (HF.out.2.1 _)) ?_; rintro e' w' ⟨hs, hb⟩; exact ⟨hs, HF.out.2.2 _ _ (hb.mono (HF.out.2.1 _).size)⟩)))
              refine wpQuiet_nil ?_
              rintro _ ⟨i, rfl⟩
              have BM : Hid (Below W6.heap.size W6 (F i)) := HF.out.2.1 i
              clear HF f0 f1 f2
              generalize F i = Wn at BM ⊢
              go_wp2
              go_meet
              exact ⟨rfl, BM⟩
            case rest =>
              rename World => W7
              obtain ⟨rfl, HB7⟩ := hcut
              clear c0 v0 v1 t0 t1 s0 s1 cl vl tl sl HMT2 HHS
              have HS7 : Hid (DueSt W3 W7 gs r m (fun k => ∃ u ∈ U, u.key = k ∧ DueK S G (pub, seq) y u) (D ++ [(k1, k2)]) L (.slice va vn vc)) := HD.out.skip HK.out.1 HK.out.2.1 (H6.out.1.of_blocks (HB7.out.block _ (H6.out.1.mp.lt)) (HB7.out.block _ (H6.out.1.lt))) (H6.out.2.1.trans (HB7.out.mono H6.out.2.1.size)) (own_carry H6.out.2.2 HB7.out) HNP.out
              go_wp2
              go_roundg (m.length - (D.length + 1))
              case measure =>
                have z1 := HKX.out.1
                have z2 := HD.out.lt HK.out.1 HK.out.2.1
                omega
              case rel => exact ⟨va, vn, vc, rfl, ⟨D ++ [(k1, k2)], L, by simp, HKX.out.2, HS7.out⟩⟩
end Go.Proofs.YtpepbhmdfjpblaaGreatDoor

/- Layer 18's answers that the document fixes; errors.Is of a board's errors. -/
namespace Go.Proofs.YtpepbhmdfjpblaaGreatDoor
open Go.ChangeShapes Go.WideShapes Go.ChangeAt Go.RowKit Go.Extern.Stop Go.Stop Go.Extern
set_option linter.unusedVariables false

set_option maxRecDepth 100000 in
set_option maxHeartbeats 2000000 in
/-- errors.Is of a fault of whatever package, which bears a code. -/
theorem is_fl2 (g : Nat) (c k : Int) (wh : ByteArray) (at' : Int) (w : World) (h : w.heap[g]? = some (.cells #[.string wh, .int .i64 at', .iface 36 (.int .i64 c)] 172 (0, 0))) :
    Calls Tryz.prog 12 #[.iface 170 (.pointer (some ⟨g, 0, none⟩)), .iface 36 (.int .i64 k)] w fun e w' => e = .returned (.bool (c == k)) ∧ w' = w := by
  have hc2 : w.cell? ⟨g, 2, none⟩ = some (.iface 36 (.int .i64 c)) := by simp [World.cell?, h]
  clear h
  have h28 := type_callL
  have h51 := comp_callL
  have mC := comp_methodL
  have nF := no_is_fl
  have uF := has_unwrapl
  have mU := unwrap_methodl
  have n1 := no_is_c
  have n2 := no_un_c
  have n3 := no_uns_c
  have hty := run_eql_iface_types (P := Tryz.prog) 170 36 (.pointer (some ⟨g, 0, none⟩)) (.int .i64 k) Tryz.underlying30 (by decide) w
  have heq := eql_codesL c k w
  cases hcc : (c == k)
  all_goals
    rw [hcc] at heq
    clear hcc
    go_enter Tryz.func12, Tryz.ntmps12
    go_wp2
    refine wp_loop_rounds 2 ?_
    rw [rounds_succ]
    go_wp2
    rw [rounds_succ]
    go_wp2
    go_ret
    exact ⟨rfl, rfl⟩
set_option maxRecDepth 100000 in
set_option maxHeartbeats 2000000 in
/-- errors.Is of a fault of package filter about a fault of package value. -/
theorem is_fin (g : Nat) (k : Int) (w : World) (h : FaultIn w g) :
    Calls Tryz.prog 12 #[.iface 170 (.pointer (some ⟨g, 0, none⟩)), .iface 36 (.int .i64 k)] w fun e w' => e = .returned (.bool (3 == k)) ∧ w' = w := by
  obtain ⟨M, a, b, h1, h2⟩ := h
  have hc1 : w.cell? ⟨g, 2, none⟩ = some (.iface 170 (.pointer (some ⟨M, 0, none⟩))) := by simp [World.cell?, h1]
  have hc2 : w.cell? ⟨M, 2, none⟩ = some (.iface 36 (.int .i64 3)) := by simp [World.cell?, h2]
  clear h1 h2
  have h28 := type_callL
  have h51 := comp_callL
  have mC := comp_methodL
  have nF := no_is_fl
  have uF := has_unwrapl
  have mU := unwrap_methodl
  have n1 := no_is_c
  have n2 := no_un_c
  have n3 := no_uns_c
  have hty := run_eql_iface_types (P := Tryz.prog) 170 36 (.pointer (some ⟨g, 0, none⟩)) (.int .i64 k) Tryz.underlying30 (by decide) w
  have hty2 := run_eql_iface_types (P := Tryz.prog) 170 36 (.pointer (some ⟨M, 0, none⟩)) (.int .i64 k) Tryz.underlying30 (by decide) w
  have heq := eql_codesL 3 k w
  cases hcc : ((3 : Int) == k)
  all_goals
    rw [hcc] at heq
    clear hcc
    go_enter Tryz.func12, Tryz.ntmps12
    go_wp2
    refine wp_loop_rounds 3 ?_
    rw [rounds_succ]
    go_wp2
    rw [rounds_succ]
    go_wp2
    rw [rounds_succ]
    go_wp2
    go_ret
    exact ⟨rfl, rfl⟩
/-- errors.Is of codes. -/
theorem is_cd (c k : Int) (w : World) : Calls Tryz.prog 12 #[.iface 36 (.int .i64 c), .iface 36 (.int .i64 k)] w fun e w' => e = .returned (.bool (c == k)) ∧ w' = w := by
  by_cases h : c = k
  · subst h
    refine (is_code c w).mono ?_
    rintro e w' ⟨h1, h2⟩
    exact ⟨by rw [h1]; simp, h2⟩
  · refine (is_other c k h w).mono ?_
    rintro e w' ⟨h1, h2⟩
    have : (c == k) = false := by simpa using h
    exact ⟨by rw [h1, this], h2⟩

/-- Texts of at most 300 bytes: a filter, or ErrParse. -/
theorem two_q3 (s : ByteArray) (hs : s.size ≤ 300) : ∃ (ps : List Pl) (cd pl : Int), ps.length ≤ 1000 ∧ (∀ p ∈ ps, PrnL p) ∧ TwoQ s ps cd pl ∧ (cd = 0 ∨ cd = 2) := by
  obtain ⟨ps, cd, pl, h1, h2, h3⟩ := two_q s (by omega)
  have hl : ¬ 300 < s.size := by omega
  have hm : s.size ≤ maxLen := by unfold maxLen; omega
  cases hp : pars s.data.toList with
  | fail b r =>
    refine ⟨[], 2, ((s.size - r.length : Nat) : Int), by simp, by simp, ⟨fun W E => ?_, fun W => ?_⟩, .inr rfl⟩
    · refine (parse_any s W E hm).mono ?_
      rintro e w' ⟨hA, hb⟩
      obtain ⟨N, rfl, hF⟩ := hA.fail hl hp
      exact ⟨_, _, rfl, plin_nil _ 0, Or.inr ⟨by omega, N, rfl, hF⟩, hb⟩
    · refine (rparse_any s W hm).mono ?_
      rintro e w' ⟨hA, hb⟩
      unfold RParsAns at hA
      rw [if_neg hl, hp] at hA
      exact ⟨_, hA, plin_nil _ 0, hb⟩
  | ok qs r =>
    have hn : qs.length ≤ 1000 := by
      have h1 : ∀ n acc l qs r, rFil n acc l = .ok qs r → qs.length ≤ acc.length + n := by
        intro n
        induction n with
        | zero => intro acc l qs r h; unfold rFil at h; cases h
        | succ n ih =>
          intro acc l qs r h
          unfold rFil at h
          split at h
          · cases h
          · split at h
            · cases h; simp
            · cases h
            · have := ih _ _ _ _ h; simp at this; omega
      have h2 := h1 _ _ _ _ _ (show rFil (s.data.toList.length + 1) [] s.data.toList = .ok qs r from hp)
      simp at h2; omega
    refine ⟨qs, 0, 0, hn, pars_prn hp (by simp; omega), ⟨fun W E => ?_, fun W => ?_⟩, .inl rfl⟩
    · refine (parse_any s W E hm).mono ?_
      rintro e w' ⟨hA, hb⟩
      obtain ⟨v, rfl, hrow⟩ := hA.ok hl hp
      exact ⟨_, _, rfl, PlIn.ofOwn hrow, Or.inl ⟨rfl, rfl⟩, hb⟩
    · refine (rparse_any s W hm).mono ?_
      rintro e w' ⟨hA, hb⟩
      unfold RParsAns at hA
      rw [if_neg hl, hp] at hA
      obtain ⟨v, rfl, hrow⟩ := hA
      exact ⟨_, rfl, PlIn.ofOwn hrow, hb⟩

def l39 : List UInt8 := [112, 114, 105, 99, 101, 32, 105, 110, 32, 51, 46, 46, 57]
def s39 : ByteArray := ⟨#[112, 114, 105, 99, 101, 32, 105, 110, 32, 51, 46, 46, 57]⟩
theorem num9e : rNumber [57] = .ok 9 [] := by
  have e1 : ([57] : List UInt8).dropWhile isBlank = [57] := rfl
  have e2 : nSign [57] = [] := rfl
  have e3 : nDigits [57] = [57] := rfl
  have e4 : nRest [57] = [] := rfl
  have e5 : Lib.atoiAll [57] = .ok 9 := by decide
  have e6 : Lib.itoa 9 = [57] := by unfold Lib.itoa; rw [if_neg (by decide)]; show Lib.decDigits 9 = _; rw [Lib.decDigits, dif_pos (by decide)]; rfl
  unfold rNumber
  rw [e1]; simp only [e2, e3, e4, List.nil_append, e5, e6]
  rfl
theorem nums39e : rNums [105, 110, 32, 51, 46, 46, 57] = .ok (3, 9) [] := by
  have e1 : rThis [105, 110] [105, 110, 32, 51, 46, 46, 57] = .ok () [32, 51, 46, 46, 57] := rfl
  have e2 : rMark [46, 46] [46, 46, 57] = .ok () [57] := by
    have : ([46, 46, 57] : List UInt8).dropWhile isBlank = [46, 46, 57] := rfl
    unfold rMark; rw [this]; simp
  unfold rNums
  rw [e1]; simp only [num3, e2, num9e]
theorem pred39 : rPred l39 = .ok ⟨lPrice, 1, 3, 9, []⟩ [] := by
  have e1 : rWord l39 = .ok lPrice [32, 105, 110, 32, 51, 46, 46, 57] := rfl
  have e2 : rBegin [32, 105, 110, 32, 51, 46, 46, 57] = .ok () [105, 110, 32, 51, 46, 46, 57] := rfl
  unfold rPred
  rw [e1]; simp only [e2]
  unfold rAsk
  simp only
  rw [if_neg (by decide), if_neg (by decide), nums39e]
theorem pars39 : pars l39 = .ok [⟨lPrice, 1, 3, 9, []⟩] [] := by
  have e2 : rThis [97, 110, 100] [] = .fail true [] := rfl
  unfold pars
  show rFil (12 + 1 + 1) [] l39 = _
  rw [rFil, pred39]; simp only [e2]; rfl
theorem two39 : TwoQ s39 [⟨lPrice, 1, 3, 9, []⟩] 0 0 ∧ ∀ p ∈ [(⟨lPrice, 1, 3, 9, []⟩ : Pl)], PrnL p := by
  have hl : ¬ 300 < s39.size := by decide
  have hp : pars s39.data.toList = .ok [⟨lPrice, 1, 3, 9, []⟩] [] := pars39
  refine ⟨⟨fun W E => ?_, fun W => ?_⟩, pars_prn hp (by decide)⟩
  · refine (parse_any s39 W E (by decide)).mono ?_
    rintro e w' ⟨hA, hb⟩
    obtain ⟨v, rfl, hrow⟩ := hA.ok hl hp
    exact ⟨_, _, rfl, PlIn.ofOwn hrow, Or.inl ⟨rfl, rfl⟩, hb⟩
  · refine (rparse_any s39 W (by decide)).mono ?_
    rintro e w' ⟨hA, hb⟩
    unfold RParsAns at hA
    rw [if_neg hl, hp] at hA
    obtain ⟨v, rfl, hrow⟩ := hA
    exact ⟨_, rfl, PlIn.ofOwn hrow, hb⟩
end Go.Proofs.YtpepbhmdfjpblaaGreatDoor

/- Layer 18's answers that the document fixes: awake. -/
namespace Go.Proofs.YtpepbhmdfjpblaaGreatDoor
open Go.ChangeShapes Go.WideShapes Go.ChangeAt Go.RowKit Go.Extern.Stop Go.Stop Go.Extern
set_option linter.unusedVariables false

def aA : List At := [⟨sPrice, 1, 0, 99⟩]
theorem aA_ok : SchemaOk aA := by
  refine ⟨by decide, by decide, fun i hi => ?_⟩
  obtain rfl : i = 0 := by have : i < 1 := hi; omega
  exact ⟨⟨price_ok, .inl ⟨rfl, by decide, by decide, by decide⟩⟩, fun j hj => by omega⟩
theorem aA_find : FindAt aA sPrice 0 := ⟨by decide, rfl, fun j hj => by omega⟩
def aV : List Vl := [⟨5, ByteArray.empty⟩]
theorem aV_ok : EventOk aA aV 0 := by
  refine ⟨rfl, by decide, fun i hi => ?_⟩
  obtain rfl : i = 0 := by have : i < 1 := hi; omega
  exact .inl ⟨rfl, by decide, by decide, rfl⟩
def aP : List Pl := [⟨lPrice, 1, 3, 9, []⟩]
theorem aP_is : aP.map pdOf = [⟨sPrice, 1, 3, 9, ByteArray.empty⟩] := rfl
theorem aP_ok : FilterOk aA (aP.map pdOf) := by
  rw [aP_is]
  refine ⟨by decide, by decide, fun i hi => ?_⟩
  obtain rfl : i = 0 := by have : i < 1 := hi; omega
  exact ⟨fun j hj => by omega, 0, aA_find, .inl ⟨rfl, rfl, by decide, by decide, by decide, rfl⟩⟩
theorem aM_ok : MatchOk aA (aP.map pdOf) aV 0 := by
  refine ⟨aP_ok, aV_ok, fun i hi => ?_⟩
  rw [aP_is] at hi ⊢
  obtain rfl : i = 0 := by have : i < 1 := hi; omega
  exact ⟨0, aA_find, takes_1.mpr ⟨by decide, by decide⟩⟩
def aE : Bev := ⟨(2, 1), aV, ByteArray.empty⟩
def aU : Bsb := ⟨(0, 1), aP.map pdOf⟩
theorem aDue {L : List (Int × Int)} {y : Bev} (hy : y ∈ [aE]) (h : DueL [aU] (DueK aA [] (2, 1) y) L) : L = [(0, 1)] := by
  obtain rfl : y = aE := by simpa using hy
  refine h.uniq ⟨by simp, fun k => ⟨fun hk => ⟨aU, by simp, ?_, aM_ok, by simp⟩, ?_⟩⟩
  · have : k = (0, 1) := by simpa using hk
    rw [this]; rfl
  · rintro ⟨u, hu, rfl, _⟩
    have : u = aU := by simpa using hu
    rw [this]; simp [aU]
theorem aGive0 (c : Int) (h : GiveC aA [aE] [aU] [] ((0, 1), (2, 1)) aV ByteArray.empty c) : c = 0 := by
  rcases h with ⟨_, hn⟩ | ⟨y, hy, _, ⟨_, hn⟩ | ⟨_, ⟨_, hn⟩ | ⟨x, hx, _, ⟨_, hn⟩ | ⟨_, ⟨_, hn⟩ | ⟨h0, _⟩⟩⟩⟩⟩
  · exact absurd rfl (hn aE (by simp))
  · obtain rfl : y = aE := by simpa using hy
    exact absurd ⟨rfl, rfl⟩ hn
  · exact absurd rfl (hn aU (by simp))
  · obtain rfl : y = aE := by simpa using hy
    obtain rfl : x = aU := by simpa using hx
    exact absurd aM_ok hn
  · simp at hn
  · exact h0
theorem aGive5 (c : Int) (h : GiveC aA [aE] [aU] [((0, 1), (2, 1))] ((0, 1), (2, 1)) aV ByteArray.empty c) : c = 5 := by
  rcases h with ⟨_, hn⟩ | ⟨y, hy, _, ⟨_, hn⟩ | ⟨_, ⟨_, hn⟩ | ⟨x, hx, _, ⟨_, hn⟩ | ⟨_, ⟨h5, _⟩ | ⟨_, hn⟩⟩⟩⟩⟩
  · exact absurd rfl (hn aE (by simp))
  · obtain rfl : y = aE := by simpa using hy
    exact absurd ⟨rfl, rfl⟩ hn
  · exact absurd rfl (hn aU (by simp))
  · obtain rfl : y = aE := by simpa using hy
    obtain rfl : x = aU := by simpa using hx
    exact absurd aM_ok hn
  · exact h5
  · simp at hn

set_option maxRecDepth 100000 in
set_option maxHeartbeats 4000000 in
theorem awake18_any (w : World) (hE : Env w) : Calls Tryz.prog 10 #[] w fun e w' => e = .returned (.bool true) ∧ Below w.heap.size w w' := by
  have HE : Hid (Env w) := hE
  clear hE
  go_enter Tryz.func10, Tryz.ntmps10
  go_wp2_with fail
  refine (bnew_any _ aA _ (AtIn.ofBlock aA rfl (heap_alloc_new w _) (by decide)) (by decide) (by decide +kernel)).mono ?_
  rintro e w1 ⟨hN, b1⟩
  rcases hN with ⟨_, p, ge, gs, gg, rfl, hb, l0, l1, l2, l3⟩ | ⟨hn, _⟩
  rotate_left
  · exact absurd aA_ok hn
  have H1 : Hid (BdAt w1 p ge gs gg aA [] [] [] ∧ Below w.heap.size w w1 ∧ w.heap.size ≤ ge ∧ w.heap.size ≤ gs ∧ w.heap.size ≤ gg) := ⟨hb, (b_one _ _).trans (b1.mono (by simp)), by simp at l1; omega, by simp at l2; omega, by simp at l3; omega⟩
  clear hb b1 l0 l1 l2 l3
  obtain ⟨W2, hW2⟩ : ∃ W2, W2 = (w1.alloc (.cells #[.int .i64 5, .string ⟨#[]⟩] 87)).alloc (.cells #[.slice (some ⟨w1.heap.size, 0, none⟩) 1 1, .string ⟨#[]⟩] 44) := ⟨_, rfl⟩
  have b2 : Below w1.heap.size w1 W2 := by rw [hW2]; exact (b_one _ _).trans ((b_one _ _).mono (by simp))
  have hv : VlIn W2 (.slice (some ⟨w1.heap.size, 0, none⟩) 1 1) aV := by rw [hW2]; exact (VlIn.ofBlock aV rfl (heap_alloc_new w1 _) (by decide)).below (b_one _ _)
  have x0 : W2.cell? ⟨w1.heap.size + 1, 0, none⟩ = some (.slice (some ⟨w1.heap.size, 0, none⟩) 1 1) := by rw [hW2]; exact cell_at (j := 0) (by simp) (by simp)
  have x1 : W2.cell? ⟨w1.heap.size + 1, 1, none⟩ = some (.string ⟨#[]⟩) := by rw [hW2]; exact cell_at (j := 1) (by simp) (by simp)
  have H2 : Hid (BdAt W2 p ge gs gg aA [] [] [] ∧ Below w.heap.size w W2 ∧ (w.heap.size ≤ ge ∧ w.heap.size ≤ gs ∧ w.heap.size ≤ gg) ∧ VlIn W2 (.slice (some ⟨w1.heap.size, 0, none⟩) 1 1) aV ∧ W2.cell? ⟨w1.heap.size + 1, 0, none⟩ = some (.slice (some ⟨w1.heap.size, 0, none⟩) 1 1) ∧ W2.cell? ⟨w1.heap.size + 1, 1, none⟩ = some (.string ⟨#[]⟩)) := ⟨H1.out.1.below b2, H1.out.2.1.trans (b2.mono H1.out.2.1.size), H1.out.2.2, hv, x0, x1⟩
  clear b2 hv x0 x1
  go_wp2_with fail
  rw [← hW2]
  clear hW2
  refine (bpub_any p ge gs gg aA [] [] [] 2 1 _ aV ByteArray.empty _ H2.out.1 H2.out.2.2.2.1 (by decide) (by decide) (by decide)).mono ?_
  rintro e w3 ⟨hP, k3⟩
  rcases hP with ⟨hn, _⟩ | ⟨_, ⟨y, hy, _⟩, _⟩ | ⟨_, _, rfl, hb⟩
  · exact absurd aV_ok hn
  · simp at hy
  have HB : Hid (∃ ga q, ga = w1.heap.size ∧ q = w1.heap.size + 1) := ⟨_, _, rfl, rfl⟩
  generalize hq1 : w1.heap.size + 1 = q at H2 ⊢
  generalize hq0 : w1.heap.size = ga at H2 ⊢
  have K3 := H2.out.1.kc k3
  have H3 : Hid (BdAt w3 p ge gs gg aA [aE] [] [] ∧ Below w.heap.size w w3 ∧ (w.heap.size ≤ ge ∧ w.heap.size ≤ gs ∧ w.heap.size ≤ gg) ∧ VlIn w3 (.slice (some ⟨ga, 0, none⟩) 1 1) aV ∧ w3.cell? ⟨q, 0, none⟩ = some (.slice (some ⟨ga, 0, none⟩) 1 1) ∧ w3.cell? ⟨q, 1, none⟩ = some (.string ⟨#[]⟩)) := ⟨hb, H2.out.2.1.trans (k3.below H2.out.2.2.1.1 H2.out.2.2.1.2.1 H2.out.2.2.1.2.2 H2.out.2.1.size), H2.out.2.2.1, H2.out.2.2.2.1.kc K3, K3.at H2.out.2.2.2.2.1, K3.at H2.out.2.2.2.2.2⟩
  clear k3 hb K3 H2 H1 HB
  go_wp2_with fail
  refine (bsub_any p ge gs gg aA [aE] [] [] 0 1 s39 aP 0 0 _ H3.out.1 (HE.out.below H3.out.2.1 HE.out.lt) (by decide) two39.2 two39.1).mono ?_
  rintro e w4 ⟨hP, k4⟩
  rcases hP with ⟨hn, _⟩ | ⟨_, hn, _⟩ | ⟨_, _, ⟨y, hy, _⟩, _⟩ | ⟨_, _, _, rfl, hb⟩
  · exact absurd rfl hn
  · exact absurd aP_ok hn
  · simp at hy
  have K4 := H3.out.1.kc k4
  have H4 : Hid (BdAt w4 p ge gs gg aA [aE] [aU] [] ∧ Below w.heap.size w w4 ∧ (w.heap.size ≤ ge ∧ w.heap.size ≤ gs ∧ w.heap.size ≤ gg) ∧ VlIn w4 (.slice (some ⟨ga, 0, none⟩) 1 1) aV ∧ w4.cell? ⟨q, 0, none⟩ = some (.slice (some ⟨ga, 0, none⟩) 1 1) ∧ w4.cell? ⟨q, 1, none⟩ = some (.string ⟨#[]⟩)) := ⟨hb, H3.out.2.1.trans (k4.below H3.out.2.2.1.1 H3.out.2.2.1.2.1 H3.out.2.2.1.2.2 H3.out.2.1.size), H3.out.2.2.1, H3.out.2.2.2.1.kc K4, K4.at H3.out.2.2.2.2.1, K4.at H3.out.2.2.2.2.2⟩
  clear k4 hb K4 H3
  go_wp2_with fail
  refine (bdue_any p ge gs gg aA [aE] [aU] [] 2 1 _ H4.out.1 (by decide)).mono ?_
  rintro e w5 ⟨hD, b5⟩
  rcases hD with ⟨hn, _⟩ | ⟨y, hy, _, v, L, rfl, hL, hW⟩
  · exact absurd rfl (hn aE (by simp))
  obtain rfl := aDue hy hL
  obtain ⟨ta, tc, rfl, _, hT⟩ := hW.shape
  obtain ⟨tg, rfl, htl, hT⟩ := hT (by decide)
  have t1 : w5.cell? ⟨tg, 1, none⟩ = some (.int .i64 1) := (hT 0 (by decide)).2
  obtain ⟨W6, hW6⟩ : ∃ W6, W6 = w5.alloc (.cells #[.int .i64 1, .int .i64 2, .int .i64 1, .slice (some ⟨ga, 0, none⟩) 1 1, .string ⟨#[]⟩] 68) := ⟨_, rfl⟩
  have b6 : Below w5.heap.size w5 W6 := by rw [hW6]; exact b_one _ _
  have b56 := b5.trans (b6.mono b5.size)
  have y0 : W6.cell? ⟨w5.heap.size, 0, none⟩ = some (.int .i64 1) := by rw [hW6]; exact cell_at (j := 0) rfl (by simp)
  have y1 : W6.cell? ⟨w5.heap.size, 1, none⟩ = some (.int .i64 2) := by rw [hW6]; exact cell_at (j := 1) rfl (by simp)
  have y2 : W6.cell? ⟨w5.heap.size, 2, none⟩ = some (.int .i64 1) := by rw [hW6]; exact cell_at (j := 2) rfl (by simp)
  have y3 : W6.cell? ⟨w5.heap.size, 3, none⟩ = some (.slice (some ⟨ga, 0, none⟩) 1 1) := by rw [hW6]; exact cell_at (j := 3) rfl (by simp)
  have y4 : W6.cell? ⟨w5.heap.size, 4, none⟩ = some (.string ⟨#[]⟩) := by rw [hW6]; exact cell_at (j := 4) rfl (by simp)
  have z1 := cell_grown t1 b6
  have zl := cell_block z1
  have yl := cell_block y0
  have wl := H4.out.2.1.size
  have H6 : Hid (BdAt W6 p ge gs gg aA [aE] [aU] [] ∧ Below w.heap.size w W6 ∧ (w.heap.size ≤ ge ∧ w.heap.size ≤ gs ∧ w.heap.size ≤ gg) ∧ VlIn W6 (.slice (some ⟨ga, 0, none⟩) 1 1) aV) := ⟨H4.out.1.below b56, H4.out.2.1.trans (b56.mono wl), H4.out.2.2.1, H4.out.2.2.2.1.below b56⟩
  obtain ⟨d0, d1⟩ : w5.cell? ⟨q, 0, none⟩ = some (.slice (some ⟨ga, 0, none⟩) 1 1) ∧ w5.cell? ⟨q, 1, none⟩ = some (.string ⟨#[]⟩) := ⟨cell_grown H4.out.2.2.2.2.1 b5, cell_grown H4.out.2.2.2.2.2 b5⟩
  have dl := cell_block d0
  clear H4 hL hW hT b5 b6 b56 wl t1 htl hy
  go_upto_region 7 with fail
  rw [← hW6]
  clear hW6 d0 d1 dl
  generalize hr : w5.heap.size = r at y0 y1 y2 y3 y4 yl ⊢
  go_wp2_with fail
  refine (bgive_any p ge gs gg aA [aE] [aU] [] 0 1 2 1 _ aV ByteArray.empty _ H6.out.1 H6.out.2.2.2 (by decide)).mono ?_
  rintro e w7 ⟨hG, k7⟩
  rcases hG with ⟨_, rfl, hb⟩ | ⟨c, hc, hG, _⟩
  rotate_left
  · exact absurd (aGive0 c hG) hc
  have K7 := H6.out.1.kc k7
  have H7 : Hid (BdAt w7 p ge gs gg aA [aE] [aU] [((0, 1), (2, 1))] ∧ Below w.heap.size w w7 ∧ (w.heap.size ≤ ge ∧ w.heap.size ≤ gs ∧ w.heap.size ≤ gg) ∧ VlIn w7 (.slice (some ⟨ga, 0, none⟩) 1 1) aV) := ⟨hb, H6.out.2.1.trans (k7.below H6.out.2.2.1.1 H6.out.2.2.1.2.1 H6.out.2.2.1.2.2 H6.out.2.1.size), H6.out.2.2.1, H6.out.2.2.2.kc K7⟩
  have u0 := K7.at y0
  have u1 := K7.at y1
  have u2 := K7.at y2
  have u3 := K7.at y3
  have u4 := K7.at y4
  have ul := cell_block u0
  clear K7 hb k7 H6 y0 y1 y2 y3 y4 yl z1 zl
  go_wp2_with fail
  refine (bgive_any p ge gs gg aA [aE] [aU] [((0, 1), (2, 1))] 0 1 2 1 _ aV ByteArray.empty _ H7.out.1 H7.out.2.2.2 (by decide)).mono ?_
  rintro e w8 ⟨hG, k8⟩
  rcases hG with ⟨hG, _⟩ | ⟨c, hc, hG, rfl, hb⟩
  · have := aGive5 0 hG; omega
  obtain rfl := aGive5 c hG
  have H8 : Hid (Below w.heap.size w w8) := H7.out.2.1.trans (k8.below H7.out.2.2.1.1 H7.out.2.2.1.2.1 H7.out.2.2.1.2.2 H7.out.2.1.size)
  clear hG hb k8 H7 u0 u1 u2 u3 u4 ul
  go_wp2_with fail
  refine (is_cd 5 5 _).mono ?_
  rintro e w9 ⟨rfl, rfl⟩
  go_wp2
  go_ret
  exact ⟨rfl, H8.out⟩
end Go.Proofs.YtpepbhmdfjpblaaGreatDoor

/- What five tied variables give a walk: strconv's table, and its two errors. -/
namespace Go.Proofs.YtpepbhmdfjpblaaGreatDoor
open Go.ChangeShapes Go.WideShapes Go.ChangeAt Go.RowKit Go.Extern.Stop Go.Stop Go.Extern
set_option linter.unusedVariables false

abbrev seatLaid5 : List (String × DataW Unit) := [("math/bits.deBruijn32tab", Rows.laid_math_bits_deBruijn32tab), ("math/bits.deBruijn64tab", Rows.laid_math_bits_deBruijn64tab), ("internal/strconv.uint64pow10", Rows.laid_internal_strconv_uint64pow10), ("strconv.ErrRange", Rows.laid_strconv_ErrRange), ("strconv.ErrSyntax", Rows.laid_strconv_ErrSyntax)]
theorem cell_lt5 {w : World} {g : Nat} {v : Value} (h : w.cell? ⟨g, 0, none⟩ = some v) : g < w.heap.size := by
  rcases Nat.lt_or_ge g w.heap.size with q | q
  · exact q
  · simp [World.cell?, Array.getElem?_eq_none q] at h
set_option maxRecDepth 100000 in
/-- A variable of type error that holds a fault of the library's: its cell. -/
theorem iface_of_laid5 {W : World} {n : String} {g : Nat} {nm : String} {d : DataW Unit} (hg : Tryz.prog.globalNamed n = some g) (hty : (Tryz.prog.globals[g]?).map (·.type) = some 30) (h : laidMet Tryz.prog [(n, .iface nm d)] W) :
    ∃ t v, W.cell? ⟨g, 0, none⟩ = some (.iface t v) := by
  obtain ⟨ps, ⟨g', t', cs, fuel, p, q, hg', ht', hvar, hd, _, _⟩, _⟩ := h
  obtain rfl := Option.some.inj (hg.symm.trans hg')
  obtain rfl := Option.some.inj (hty.symm.trans ht')
  have hc := World.var?_cell hg hvar 0
  have hu := Tryz.underlying30
  obtain ⟨l⟩ := cs
  cases fuel with
  | zero => unfold DataW.trod at hd; cases hd
  | succ fuel =>
    unfold DataW.trod at hd
    rw [hu] at hd
    match l, hd, hc with
    | [.iface t v], _, hc => exact ⟨t, v, by simpa using hc⟩
    | [.nilIface], hd, _ => simp at hd
set_option maxRecDepth 100000 in
theorem genv_of_laid5 {W : World} (h : laidMetH Tryz.prog seatLaid5 W) : Env W := by
  obtain ⟨h1, h2⟩ := laidMetH_iff.1 h
  have f1 := h1.filter (fun x => x.1 == "internal/strconv.uint64pow10")
  have f2 := h1.filter (fun x => x.1 == "strconv.ErrSyntax")
  have f3 := h1.filter (fun x => x.1 == "strconv.ErrRange")
  have f4 := h1.filter (fun x => x.1 == "math/bits.deBruijn64tab")
  have g1 : laidMet Tryz.prog [("internal/strconv.uint64pow10", Lib.tabData .u64 Lib.pow10Tab)] W := f1
  have g2 : laidMet Tryz.prog [("strconv.ErrSyntax", Rows.laid_strconv_ErrSyntax)] W := f2
  have g3 : laidMet Tryz.prog [("strconv.ErrRange", Rows.laid_strconv_ErrRange)] W := f3
  have g4 : laidMet Tryz.prog [("math/bits.deBruijn64tab", Rows.laid_math_bits_deBruijn64tab)] W := f4
  refine ⟨?_, iface_of_laid5 (by kernel_rfl) (by kernel_rfl) g2, iface_of_laid5 (by kernel_rfl) (by kernel_rfl) g3, ?_⟩
  · exact Lib.tabIs_of_head (P := Tryz.prog) (g := 3) (by kernel_rfl) (t := 261) (by kernel_rfl) Tryz.underlying261 Tryz.underlying198 (by kernel_rfl) (by kernel_rfl) g1
  · obtain ⟨ps, ⟨g', t', cs, fuel, p, q, hg', ht', hvar, hd, _, _⟩, _⟩ := g4
    have hgg : Tryz.prog.globalNamed "math/bits.deBruijn64tab" = some 5 := by kernel_rfl
    unfold World.var? at hvar
    rw [hgg] at hvar
    simp only [Option.bind_some] at hvar
    have hlt : 5 < W.heap.size := by
      rcases Nat.lt_or_ge 5 W.heap.size with q | q
      · exact q
      · rw [Array.getElem?_eq_none q] at hvar; simp at hvar
    obtain ⟨_, _, h3⟩ := iface_of_laid5 (g := 2) (by kernel_rfl) (by kernel_rfl) g3
    have hl3 : 2 < W.heap.size := cell_lt5 h3
    omega
/-- A world in which the variables hold what they should: that there is one. -/
def litCells : DataW Unit → Array Value
  | .agg ps => (ps.map fun | .lit (.int k n) => Value.int k n | _ => Value.nilIface).toArray
  | _ => #[]
def setB (h : Array Obj) (g : Nat) (cs : Array Value) : Array Obj := h.modify g fun | .cells _ t frozen => .cells cs t frozen | o => o
def witHeap5 (h : Array Obj) : Array Obj :=
  ((setB (setB (setB (setB (setB h 1 #[.iface 257 (.pointer (some ⟨h.size, 0, none⟩))]) 2 #[.iface 257 (.pointer (some ⟨h.size + 1, 0, none⟩))])
    3 (litCells Rows.laid_internal_strconv_uint64pow10)) 4 (litCells Rows.laid_math_bits_deBruijn32tab)) 5 (litCells Rows.laid_math_bits_deBruijn64tab)).push
      (.cells #[.string ⟨#[105, 110, 118, 97, 108, 105, 100, 32, 115, 121, 110, 116, 97, 120]⟩] 259)).push (.cells #[.string ⟨#[118, 97, 108, 117, 101, 32, 111, 117, 116, 32, 111, 102, 32, 114, 97, 110, 103, 101]⟩] 259)
theorem wit_laid5 (os : Os) : laidMetH Tryz.prog seatLaid5 { World.holding Tryz.prog os ⟨#[], #[], []⟩ with heap := witHeap5 (World.holding Tryz.prog os ⟨#[], #[], []⟩).heap } :=
  laidMetH_of_parts (laidMet_of_run' 8 (by kernel_rfl) (by kernel_rfl)) (by kernel_rfl)
end Go.Proofs.YtpepbhmdfjpblaaGreatDoor
