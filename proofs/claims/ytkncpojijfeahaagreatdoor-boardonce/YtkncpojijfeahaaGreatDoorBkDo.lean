/- board.New, Publish. -/
import Derived.Test.YtkncpojijfeahaaGreatDoorJoinBkBase
import Derived.Test.YtkncpojijfeahaaGreatDoorBkClone
import Derived.Test.YtkncpojijfeahaaGreatDoorFilRead
import Derived.Deep.RegionHeld3
namespace Go.Proofs.YtkncpojijfeahaaGreatDoor
open Go.ChangeShapes Go.WideShapes Go.ChangeAt Go.RowKit Go.Deep
open Go.ChangeMaps (setBlock)
set_option linter.unusedVariables false

/-- A fault of package value lies in block N: ErrSchema. -/
def SchF (w : World) (N : Nat) : Prop := ∃ n : Int, w.heap[N]? = some (.cells #[.string ⟨#[118, 97, 108, 117, 101]⟩, .int .i64 n, .iface 52 (.int .i64 3)] 131 (0, 0))
theorem SchF.below {w w' : World} {N : Nat} (h : SchF w N) (hb : Below w.heap.size w w') : SchF w' N := by
  obtain ⟨n, h⟩ := h
  exact ⟨n, (hb.block N (lt_of_block h)).trans h⟩
theorem ErrIf.no {e : Ending} {w : World} {P : Prop} (h : ErrIf e w P) (hp : ¬ P) : ∃ b, e = .returned (.iface 129 (.pointer (some ⟨b, 0, none⟩))) ∧ SchF w b := by
  rcases h with ⟨_, hn⟩ | ⟨b, n, rfl, _, hb⟩
  · exact absurd hn hp
  · exact ⟨b, rfl, n, hb⟩
theorem b_one (w : World) (o : Obj) : Below w.heap.size w (w.alloc o) := (Below.refl _ _).alloc (Nat.le_refl _) o
theorem b_drew (w : World) : Below w.heap.size w w.drew := ⟨rfl, rfl, rfl, Nat.le_refl _, fun _ _ => rfl⟩
/-- A board that is new. -/
theorem BdAt.made {w : World} {sv : Value} {az : List At} (h : AtIn w sv az) (hok : SchemaOk az) :
    BdAt ((((w.alloc (.map #[] 0)).alloc (.map #[] 0)).alloc (.map #[] 0)).alloc (.cells #[sv, .map (some w.heap.size), .map (some (w.heap.size + 1)), .map (some (w.heap.size + 2))] 85)) (w.heap.size + 3) w.heap.size (w.heap.size + 1) (w.heap.size + 2) az [] [] [] := by
  have s1 : (w.alloc (.map #[] 0)).heap.size = w.heap.size + 1 := by simp
  have s2 : ((w.alloc (.map #[] 0)).alloc (.map #[] 0)).heap.size = w.heap.size + 2 := by simp
  have s3 : (((w.alloc (.map #[] 0)).alloc (.map #[] 0)).alloc (.map #[] 0)).heap.size = w.heap.size + 3 := by simp
  have b : ∀ (v : World) (o : Obj), Below v.heap.size v (v.alloc o) := b_one
  have b12 := b (w.alloc (.map #[] 0)) (.map #[] 0)
  have b23 := b ((w.alloc (.map #[] 0)).alloc (.map #[] 0)) (.map #[] 0)
  have b34 := b (((w.alloc (.map #[] 0)).alloc (.map #[] 0)).alloc (.map #[] 0)) (.cells #[sv, .map (some w.heap.size), .map (some (w.heap.size + 1)), .map (some (w.heap.size + 2))] 85)
  have hb : Below w.heap.size w ((((w.alloc (.map #[] 0)).alloc (.map #[] 0)).alloc (.map #[] 0)).alloc (.cells #[sv, .map (some w.heap.size), .map (some (w.heap.size + 1)), .map (some (w.heap.size + 2))] 85)) :=
    (((b w _).trans (b12.mono (by omega))).trans (b23.mono (by omega))).trans (b34.mono (by omega))
  have m1 : MpK kv2 (w.alloc (.map #[] 0)) w.heap.size ([] : List ((Int × Int) × Value)) := MpK.made w
  have m2 : MpK kv2 ((w.alloc (.map #[] 0)).alloc (.map #[] 0)) (w.heap.size + 1) ([] : List ((Int × Int) × Value)) := by rw [← s1]; exact MpK.made _
  have m3 : MpK kv4 (((w.alloc (.map #[] 0)).alloc (.map #[] 0)).alloc (.map #[] 0)) (w.heap.size + 2) ([] : List (Bgf × Value)) := by rw [← s2]; exact MpK.made _
  refine ⟨⟨sv, ?_, h.below hb⟩, by omega, by omega, by omega, ⟨[], ?_, trivial⟩, ⟨[], ?_, trivial⟩, ?_, hok, fun e he => (by cases he), fun e he => (by cases he)⟩
  · have := heap_alloc_new (((w.alloc (.map #[] 0)).alloc (.map #[] 0)).alloc (.map #[] 0)) (.cells #[sv, .map (some w.heap.size), .map (some (w.heap.size + 1)), .map (some (w.heap.size + 2))] 85)
    rw [s3] at this; exact this
  · exact ((m1.of_block (b12.block _ (by omega))).of_block (b23.block _ (by omega))).of_block (b34.block _ (by omega))
  · exact (m2.of_block (b23.block _ (by omega))).of_block (b34.block _ (by omega))
  · exact m3.of_block (b34.block _ (by omega))
/-- What New answers. -/
def BNew (e : Ending) (w w' : World) (az : List At) : Prop :=
  (SchemaOk az ∧ ∃ p ge gs gg, e = .returned (.tuple #[.pointer (some ⟨p, 0, none⟩), .nilIface]) ∧ BdAt w' p ge gs gg az [] [] [] ∧ w.heap.size ≤ p ∧ w.heap.size ≤ ge ∧ w.heap.size ≤ gs ∧ w.heap.size ≤ gg) ∨
  (¬ SchemaOk az ∧ ∃ b, e = .returned (.tuple #[.pointer none, .iface 129 (.pointer (some ⟨b, 0, none⟩))]) ∧ SchF w' b)

set_option maxRecDepth 100000 in
set_option maxHeartbeats 2000000 in
theorem bnew_any (v : Value) (az : List At) (w : World) (h : AtIn w v az) (hl : az.length ≤ 1000) (hz : ∀ i, i < az.length → (az.getD i at0).name.size ≤ maxLen) :
    Calls Tryz.prog 8 #[v] w fun e w' => BNew e w w' az ∧ Below w.heap.size w w' := by
  have hmm := @run_makeMap Tryz.prog
  have H : Hid (AtIn w v az ∧ az.length ≤ 1000 ∧ ∀ i, i < az.length → (az.getD i at0).name.size ≤ maxLen) := ⟨h, hl, hz⟩
  obtain ⟨a, c, rfl, _⟩ := h.shape
  clear h hz
  go_enter Tryz.func8, Tryz.ntmps8
  go_wp2_with fail
  refine (check_any _ az _ H.out.1 H.out.2.1 H.out.2.2).mono ?_
  rintro e w2 ⟨hE, b2⟩
  have B2 : Hid (Below w.heap.size w w2) := b2
  by_cases hok : SchemaOk az
  · obtain rfl := hE.t hok
    have HOK : Hid (SchemaOk az) := hok
    clear hE hok b2
    go_wp2_with fail
    refine (clone_at _ az _ (H.out.1.below B2.out) H.out.2.1).mono ?_
    rintro e w3 ⟨v', rfl, hv, b3⟩
    obtain ⟨a', c', rfl, _⟩ := hv.shape
    have hm := BdAt.made hv HOK.out
    have B3 : Hid (Below w.heap.size w w3) := B2.out.trans (b3.mono B2.out.size)
    have HM : Hid (BdAt ((((w3.alloc (.map #[] 0)).alloc (.map #[] 0)).alloc (.map #[] 0)).alloc (.cells #[.slice a' az.length c', .map (some w3.heap.size), .map (some (w3.heap.size + 1)), .map (some (w3.heap.size + 2))] 85)) (w3.heap.size + 3) w3.heap.size (w3.heap.size + 1) (w3.heap.size + 2) az [] [] [] ∧ Below w.heap.size w ((((w3.alloc (.map #[] 0)).alloc (.map #[] 0)).alloc (.map #[] 0)).alloc (.cells #[.slice a' az.length c', .map (some w3.heap.size), .map (some (w3.heap.size + 1)), .map (some (w3.heap.size + 2))] 85))) :=
      ⟨hm, B3.out.trans ((((Below.refl _ _).alloc B3.out.size _).alloc (by have := B3.out.size; simp; omega) _).alloc (by have := B3.out.size; simp; omega) _ |>.alloc (by have := B3.out.size; simp; omega) _)⟩
    clear hm hv b3
    go_wp2
    go_ret2
    have hs := B3.out.size
    exact ⟨.inl ⟨HOK.out, w3.heap.size + 3, w3.heap.size, w3.heap.size + 1, w3.heap.size + 2, by simp, HM.out.1, by omega, by omega, by omega, by omega⟩, HM.out.2⟩
  · obtain ⟨b, rfl, hF⟩ := hE.no hok
    have HF : Hid (SchF w2 b ∧ ¬ SchemaOk az) := ⟨hF, hok⟩
    clear hE hok hF b2
    go_wp2
    go_ret2
    exact ⟨.inr ⟨HF.out.2, b, rfl, HF.out.1⟩, B2.out⟩
/-- What Publish answers. -/
def BPub (e : Ending) (w w' : World) (p ge gs gg : Nat) (S : List At) (E : List Bev) (U : List Bsb) (G : List Bgf) (x : Bev) : Prop :=
  (¬ EventOk S x.vs x.pay.size ∧ ∃ b, e = .returned (.iface 129 (.pointer (some ⟨b, 0, none⟩))) ∧ SchF w' b ∧ BdAt w' p ge gs gg S E U G) ∨
  (EventOk S x.vs x.pay.size ∧ (∃ y ∈ E, y.key = x.key) ∧ e = .returned (.iface 52 (.int .i64 5)) ∧ BdAt w' p ge gs gg S E U G) ∨
  (EventOk S x.vs x.pay.size ∧ (∀ y ∈ E, y.key ≠ x.key) ∧ e = .returned .nilIface ∧ BdAt w' p ge gs gg S (E ++ [x]) U G)

set_option maxRecDepth 100000 in
set_option maxHeartbeats 4000000 in
theorem bpub_any (p ge gs gg : Nat) (S : List At) (E : List Bev) (U : List Bsb) (G : List Bgf) (pub seq : Int) (u : Value) (vs : List Vl) (pay : ByteArray) (w : World) (h : BdAt w p ge gs gg S E U G) (hu : VlIn w u vs) (hl : vs.length ≤ 1000) (hp : pay.size ≤ maxLen)
    (hz : ∀ i, i < vs.length → (vs.getD i vl0).str.size ≤ maxLen) :
    Calls Tryz.prog 13 #[.pointer (some ⟨p, 0, none⟩), .int .i64 pub, .int .i64 seq, .agg #[u, .string pay]] w fun e w' => BPub e w w' p ge gs gg S E U G ⟨(pub, seq), vs, pay⟩ ∧ Kb w w' ge gs gg := by
  obtain ⟨ua, uc, rfl, _⟩ := hu.shape
  obtain ⟨W1, hW1⟩ : ∃ W1, W1 = w.alloc (.cells #[.slice ua vs.length uc, .string pay] 27) := ⟨_, rfl⟩
  have b1 : Below w.heap.size w W1 := by rw [hW1]; exact b_one _ _
  have x0 : W1.cell? ⟨w.heap.size, 0, none⟩ = some (.slice ua vs.length uc) := by rw [hW1]; exact World.cell?_alloc_new ..
  have x1 : W1.cell? ⟨w.heap.size, 1, none⟩ = some (.string pay) := by rw [hW1]; simp
  have xl := cell_block x0
  obtain ⟨sa, sc, hsA, c0, c1, c2, c3, cl⟩ := (h.below b1).cells
  have H1 : Hid (BdAt W1 p ge gs gg S E U G ∧ VlIn W1 (.slice ua vs.length uc) vs ∧ vs.length ≤ 1000 ∧ pay.size ≤ maxLen ∧ (∀ i, i < vs.length → (vs.getD i vl0).str.size ≤ maxLen) ∧ Below w.heap.size w W1 ∧ AtIn W1 (.slice sa S.length sc) S) := ⟨h.below b1, hu.below b1, hl, hp, hz, b1, hsA⟩
  have hsl : S.length ≤ 1000 := by have := h.sok.2.1; omega
  clear h hu hz b1 hp hsA hl
  generalize hq : w.heap.size = q at x0 x1 xl
  have HEV : ∀ W, Below W1.heap.size W1 W → Calls Tryz.prog 25 #[.slice sa S.length sc, .agg #[.slice ua vs.length uc, .string pay]] W fun e w' => ErrIf e w' (EventOk S vs pay.size) ∧ Below W1.heap.size W1 w' := fun W hW => by
    refine (event_any _ _ S vs pay W (H1.out.2.2.2.2.2.2.below hW) (H1.out.2.1.below hW) hsl H1.out.2.2.1 H1.out.2.2.2.1 H1.out.2.2.2.2.1).mono ?_
    rintro e w' ⟨h1, h2⟩
    exact ⟨h1, hW.trans (h2.mono hW.size)⟩
  by_cases hok : EventOk S vs pay.size
  · have HE : Hid (∀ W, Below W1.heap.size W1 W → Calls Tryz.prog 25 #[.slice sa S.length sc, .agg #[.slice ua vs.length uc, .string pay]] W fun e w' => e = .returned .nilIface ∧ Below W1.heap.size W1 w') := fun W hW => (HEV W hW).mono (fun e w' z => ⟨z.1.t hok, z.2⟩)
    have HOK : Hid (EventOk S vs pay.size) := hok
    have HQ : Hid (w.heap.size = q) := hq
    clear HEV hok
    go_enter Tryz.func13, Tryz.ntmps13
    go_upto_region 1 with fail
    rw [← hW1]
    try rw [hq]
    clear hW1 hq
    go_cut [9] (fun v wx => v = .nilIface ∧ Hid (Below W1.heap.size W1 wx))
    case first =>
      go_region_held3 (fun W' => W'.cell? ⟨p, 0, none⟩ = some (.slice sa S.length sc) ∧ W'.cell? ⟨q, 0, none⟩ = some (.slice ua vs.length uc) ∧ W'.cell? ⟨q, 1, none⟩ = some (.string pay))
        (first
          | go_keep
          | assumption)
        ((go_at_call 25; refine Calls.mono (HE.out _ ?_) ?_; exact ⟨rfl, rfl, rfl, Nat.le_refl _, fun _ _ => rfl⟩; rintro e wV ⟨rfl, hV⟩
          have BV : Hid (Below W1.heap.size W1 wV) := hV
          have z0 := cell_grown c0 hV
          have z1 := cell_grown x0 hV
          have z2 := cell_grown x1 hV
          have zl := cell_block z0
          have zm := cell_block z1
          clear hV))
      all_goals
        go_wp2
        go_meet
        exact ⟨rfl, BV⟩
    case rest =>
      rename World => W2
      obtain ⟨rfl, HB2⟩ := hcut
      have y0 := cell_grown x0 HB2.out
      have y1 := cell_grown x1 HB2.out
      have yl := cell_block y0
      clear HE x0 x1 xl c0 c1 c2 c3 cl
      have H2 : Hid (BdAt W2 p ge gs gg S E U G ∧ VlIn W2 (.slice ua vs.length uc) vs ∧ Below w.heap.size w W2) := ⟨H1.out.1.below HB2.out, H1.out.2.1.below HB2.out, H1.out.2.2.2.2.2.1.trans (HB2.out.mono H1.out.2.2.2.2.2.1.size)⟩
      obtain ⟨sa2, sc2, _, c0, c1, c2, c3, cl⟩ := H2.out.1.cells
      rcases H2.out.1.ask_ev (pub, seq) with ⟨hno, hlk⟩ | ⟨y, u, hy, hk, hvy, hlk⟩
      · have HNO : Hid (∀ y ∈ E, y.key ≠ (pub, seq)) := hno
        have hlk2 := hlk W2 (Below.refl _ _)
        simp only at hlk2
        obtain ⟨W3, hW3⟩ : ∃ W3, W3 = W2.alloc (.cells #[.slice none 0 0, .string ByteArray.empty] 27) := ⟨_, rfl⟩
        have b3 : Below W2.heap.size W2 W3 := by rw [hW3]; exact b_one _ _
        have H3 : Hid (BdAt W3 p ge gs gg S E U G ∧ VlIn W3 (.slice ua vs.length uc) vs ∧ Below w.heap.size w W3) := ⟨H2.out.1.below b3, H2.out.2.1.below b3, H2.out.2.2.trans (b3.mono H2.out.2.2.size)⟩
        have d1 := cell_grown c1 b3
        have v0 := cell_grown y0 b3
        have v1 := cell_grown y1 b3
        have dl := cell_block d1
        have vl := cell_block v0
        clear hno hlk b3
        have HCL : Hid (∀ W, Below W3.heap.size W3 W → Calls Tryz.prog 26 #[.slice ua vs.length uc] W fun e w' => ∃ va vc w5, e = .returned (.slice va vs.length vc) ∧ (Instr.mapUpdate 81 (.map (some ge)) (.agg #[.int .i64 pub, .int .i64 seq]) (.agg #[.slice va vs.length vc, .string pay])).run Tryz.prog w' = .ok () w5 ∧ Below W3.heap.size W3 w' ∧ BdAt w5 p ge gs gg S (E ++ [⟨(pub, seq), vs, pay⟩]) U G ∧ Kb w w5 ge gs gg) := fun W hW => by
          refine (clone_vl _ vs W (H3.out.2.1.below hW) H1.out.2.2.1).mono ?_
          rintro e w' ⟨v', he, hv, b'⟩
          have bb := hW.trans (b'.mono hW.size)
          obtain ⟨w5, p1, p2, p3⟩ := (H3.out.1.below bb).put_ev (pub, seq) HNO.out hv HOK.out
          obtain ⟨a', c', rfl, _⟩ := hv.shape
          have b5 := H3.out.2.2.trans (bb.mono H3.out.2.2.size)
          exact ⟨_, _, w5, he, p1, bb, p2, (Kb.ofBelow b5).trans p3⟩
        go_upto_region 7 with fail
        rw [← hW3]
        clear hW3 hlk2
        go_region_law
          ((go_simp; go_at_call 26; refine Calls.mono (HCL.out _ (by exact ⟨rfl, rfl, rfl, Nat.le_refl _, fun _ _ => rfl⟩)) ?_; rintro e w4 ⟨va, vc, w5, rfl, hput, b4, h5, k5⟩
            have H5 : Hid (BdAt w5 p ge gs gg S (E ++ [⟨(pub, seq), vs, pay⟩]) U G ∧ Kb w w5 ge gs gg) := ⟨h5, k5⟩
            have e1 := cell_grown d1 b4
            have t0 := cell_grown v0 b4
            have t1 := cell_grown v1 b4
            have el := cell_block e1
            have tl := cell_block t0
            clear h5 k5 b4))
        all_goals
          go_wp2
          go_ret
          exact ⟨.inr (.inr ⟨HOK.out, HNO.out, rfl, H5.out.1⟩), H5.out.2⟩
      · have HY : Hid (∃ y ∈ E, y.key = (pub, seq)) := ⟨y, hy, hk⟩
        have hlk2 := hlk W2 (Below.refl _ _)
        simp only at hlk2
        obtain ⟨ya, yc, rfl, _⟩ := hvy.shape
        clear hlk hy hk hvy
        generalize y.pay = yp at hlk2
        generalize y.vs.length = yn at hlk2
        go_wp2
        go_ret
        have b3 := b_one W2 (.cells #[.slice ya yn yc, .string yp] 27)
        exact ⟨.inr (.inl ⟨HOK.out, HY.out, rfl, H2.out.1.below b3⟩), Kb.ofBelow (H2.out.2.2.trans (b3.mono H2.out.2.2.size))⟩
  · have HE : Hid (∀ W, Below W1.heap.size W1 W → Calls Tryz.prog 25 #[.slice sa S.length sc, .agg #[.slice ua vs.length uc, .string pay]] W fun e w' => ∃ b, e = .returned (.iface 129 (.pointer (some ⟨b, 0, none⟩))) ∧ SchF w' b ∧ Below W1.heap.size W1 w') := fun W hW => (HEV W hW).mono (fun e w' z => by
      obtain ⟨b, h1, h2⟩ := z.1.no hok
      exact ⟨b, h1, h2, z.2⟩)
    have HOK : Hid (¬ EventOk S vs pay.size) := hok
    have HQ : Hid (w.heap.size = q) := hq
    clear HEV hok
    go_enter Tryz.func13, Tryz.ntmps13
    go_upto_region 1 with fail
    rw [← hW1]
    try rw [hq]
    clear hW1 hq
    go_region_held3 (fun W' => W'.cell? ⟨p, 0, none⟩ = some (.slice sa S.length sc) ∧ W'.cell? ⟨q, 0, none⟩ = some (.slice ua vs.length uc) ∧ W'.cell? ⟨q, 1, none⟩ = some (.string pay))
      (first
        | go_keep
        | assumption)
      ((go_at_call 25; refine Calls.mono (HE.out _ ?_) ?_; exact ⟨rfl, rfl, rfl, Nat.le_refl _, fun _ _ => rfl⟩; rintro e wV ⟨bb, rfl, hF, hV⟩
        have BV : Hid (Below W1.heap.size W1 wV ∧ SchF wV bb) := ⟨hV, hF⟩
        have z0 := cell_grown c0 hV
        have z1 := cell_grown x0 hV
        have z2 := cell_grown x1 hV
        have zl := cell_block z0
        have zm := cell_block z1
        clear hV hF))
    all_goals
      go_wp2
      go_ret
      exact ⟨.inl ⟨HOK.out, bb, rfl, BV.out.2, H1.out.1.below BV.out.1⟩, Kb.ofBelow (H1.out.2.2.2.2.2.1.trans (BV.out.1.mono H1.out.2.2.2.2.2.1.size))⟩
end Go.Proofs.YtkncpojijfeahaaGreatDoor
