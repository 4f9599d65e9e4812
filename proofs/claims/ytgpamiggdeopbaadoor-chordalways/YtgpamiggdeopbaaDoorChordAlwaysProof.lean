/- Proved: for every list of places and every list of calls: behind each of any 100 calls each member has a head, from each one one comes to every base member, round from a base member one goes round the circle once, and Join is never ErrBusy; errors.errorType being laid as the program's text lays it (the card's tie, over the pruned copy).
  The frame is the guide's own shell (proof-skeleton.mjs) at this function; the walk and all ahead of it are mine. -/
import Derived.Test.YtgpamiggdeopbaaDoorRows
import Derived.Test.YtgpamiggdeopbaaDoorChAct
import Derived.Test.YtgpamiggdeopbaaDoorChReach
import Derived.Test.YtgpamiggdeopbaaDoorChAll
import Derived.Test.YtgpamiggdeopbaaDoorOfCode
import Derived.Deep.CutBlock
import Derived.Deep.DeepCutAuto
import Derived.Deep.LoopGhost
import Derived.WalkKit
import Derived.WalkLawsBesides
import Derived.ProofKit
import Derived.OpenShut
import Derived.ChangeSame
import Derived.ChangeVars
import Derived.JoinedOf
import Derived.RowKit
import Derived.RowKitTokens
import Derived.LaidLaws
import Derived.LaidHandle
import Derived.Stop.Joined
import Derived.SevenTiedAt
import Derived.Test.YtgpamiggdeopbaaDoorTie
import Derived.Test.YtgpamiggdeopbaaDoorCards
import Derived.ShutString
import Derived.ChangeOld
import Derived.Below
namespace Go.Proofs.YtgpamiggdeopbaaDoor.chordAlways
open Go.ChangeShapes Go.WideShapes Go.ChangeAt Go.RowKit
open Go.ChangeMaps (open_string shut_string)
set_option linter.unusedVariables false

theorem own : ownKnob Tryd.prog.godebug = none := by kernel_rfl
theorem laidOut : laidOutB Tryd.prog = true := by kernel_rfl


theorem et : Tryd.prog.globalNamed "errors.errorType" = some 0 := by kernel_rfl
theorem rt : (Tryd.prog.cutTypes.find? (·.1 == "internal/reflectlite.rtype")).map (·.2) = some 97 := by kernel_rfl
theorem oneRow : ((List.range 161).filter fun t => Tryd.prog.rowNamed t [101, 114, 114, 111, 114]) = [26] := by kernel_rfl
theorem typesSize : Tryd.prog.types.size = 161 := by kernel_rfl
/-- What the tied variable gives a walk: its one cell. -/
theorem handle_of_laid {W : World} (h : laidMetH Tryd.prog Rows.chordAlwaysRow.laid W) : ErrType W := by
  have h' : laidMet Tryd.prog [] W ∧ handlesMet Tryd.prog Rows.chordAlwaysRow.laid W := h
  obtain ⟨name, u, ty, e1, e2, e3, e4, e5⟩ := h'.2 _ (List.mem_singleton.2 rfl)
  have en : name = [101, 114, 114, 111, 114] := (Option.some.inj e1).symm
  subst en
  obtain rfl := Option.some.inj (rt.symm.trans e2)
  have hm : ty ∈ (List.range 161).filter fun t => Tryd.prog.rowNamed t [101, 114, 114, 111, 114] := List.mem_filter.2 ⟨List.mem_range.2 (by rw [← typesSize]; exact e3), e4⟩
  rw [oneRow] at hm
  obtain rfl := List.mem_singleton.1 hm
  have hh : typeHandle Tryd.prog 26 = .pointer (some ⟨1, 26, none⟩) := by kernel_rfl
  rw [hh] at e5
  unfold ErrType
  simpa using World.var?_cell et e5 0

/-! ### STEP 1: the walk -/
set_option maxRecDepth 100000 in
set_option maxHeartbeats 2000000 in
theorem walk (a0 : Option Addr) (len0 cap0 : Nat) (t0 : List Int) (a1 : Option Addr) (len1 cap1 : Nat) (t1 : List Ac10) (w : World) (hE : ErrType w) (w0 : InRow 1 encU Go.Proofs.YtgpamiggdeopbaaDoor.u64 0 w a0 len0 t0) (w1 : InRow 4 Ac10.cells Ac10.ok ac100 w a1 len1 t1) :
    Calls Tryd.prog 3 #[.slice a0 len0 cap0, .slice a1 len1 cap1] w fun e w' => e = .returned (.bool true) ∧ Below w.heap.size w w' := by
  have HI : Hid (IdIn w a0 len0 t0) := w0
  have HT : Hid (AcIn w a1 len1 t1) := w1
  have HE : Hid (ErrType w) := hE
  have hm1 := w1.2.1
  clear w0 w1 hE
  go_enter Tryd.func3, Tryd.ntmps3
  go_wp2_with fail
  refine (new_any a0 len0 cap0 t0 _ HI.out).mono ?_
  rintro e w2 ⟨h2, b2⟩
  rcases h2 with ⟨c, hc, rfl⟩ | ⟨r, gp, gk, R0, rfl, hr, hrr⟩
  · have B2 : Hid (Below w.heap.size w w2) := b2
    clear b2 hc
    go_wp2_with fail
    refine (awake10_any _).mono ?_
    rintro e w3 ⟨rfl, b3⟩
    have B3 : Hid (Below w.heap.size w w3) := B2.out.trans (b3.mono B2.out.size)
    clear b3
    go_wp2_with fail
    refine (awake10_any _).mono ?_
    rintro e w4 ⟨rfl, b4⟩
    go_wp2
    go_ret
    exact ⟨rfl, B3.out.trans (b4.mono B3.out.size)⟩
  have H2 : Hid (Rn w w2 r gp gk R0) := hr
  clear hr hrr b2
  go_wp2_with fail
  refine (awake10_any _).mono ?_
  rintro e w3 ⟨rfl, b3⟩
  have H3 : Hid (∃ R, Rn w w3 r gp gk R) := ⟨R0, H2.out.below b3⟩
  clear b3 H2
  go_wp2
  go_loopg [7] len1 (fun kx s wr => ∃ k : Nat, s = .int .i64 k ∧ k ≤ len1 ∧ k ≤ 100 ∧ kx = len1 - k ∧ Hid (∃ R, Rn w wr r gp gk R))
  case atStart => exact ⟨0, rfl, Nat.zero_le _, by omega, rfl, H3⟩
  case round =>
    obtain ⟨k, rfl, hk, hk100, rfl, HB⟩ := hrel
    clear H3
    obtain ⟨R, hS⟩ := HB.out
    have HS : Hid (Rn w wr r gp gk R) := hS
    clear hS HB
    by_cases hlt : k < len1 ∧ k < 100
    · obtain ⟨hlt, h100⟩ := hlt
      obtain ⟨b, o, rfl, hbb, hok, x0, x1, x2, x3⟩ := AcIn.at (HT.out.below (Nat.le_refl _) HS.out.bel) hlt
      generalize t1.getD k ac100 = t at hok x0 x1 x2 x3
      obtain ⟨kd, n, via, id⟩ := t
      have HO : Hid (Ac10.ok ⟨kd, n, via, id⟩) := hok
      clear hok
      simp only at x0 x1 x2 x3
      obtain ⟨W3, hW3⟩ : ∃ W3, W3 = wr.alloc (.cells #[.int .i64 kd, .int .i64 n, .int .i64 via, .int .u64 id] 33) := ⟨_, rfl⟩
      have HA : Hid (Rn w W3 r gp gk R) := by rw [hW3]; exact HS.out.below (below_one _ _)
      have y0 : W3.cell? ⟨wr.heap.size, 0, none⟩ = some (.int .i64 kd) := by rw [hW3]; simp
      have y1 : W3.cell? ⟨wr.heap.size, 1, none⟩ = some (.int .i64 n) := by rw [hW3]; simp
      have y2 : W3.cell? ⟨wr.heap.size, 2, none⟩ = some (.int .i64 via) := by rw [hW3]; simp
      have y3 : W3.cell? ⟨wr.heap.size, 3, none⟩ = some (.int .u64 id) := by rw [hW3]; simp
      have zz := cell_block y0
      go_upto_block 2 with fail
      rw [← hW3]
      clear hW3 x0 x1 x2 x3 HS
      go_cut [] (fun wx => Hid (∃ R, Rn w wx r gp gk R))
      case first =>
        by_cases k1 : kd = 1
        · subst k1
          have nb := HA.out.inv.not_busy (n := n) (via := via) HO.out.2.2.2
          by_cases qc : R.joinC n id via = 0
          · have EV : Hid (errV (R.joinC n id via) = .nilIface) := errV_nil qc
            clear nb qc
            go_wp2_with (first
              | (go_at_call 7; refine (join_r r gp gk R n id via _ HA.out.ring HO.out.2.2.2 HO.out.2.2.1).mono ?_; rintro e w5 ⟨rfl, h5, k5⟩; rw [EV.out])
              | (go_at_call 6; refine (of_nil _).mono ?_; rintro e w6 ⟨rfl, rfl⟩))
            go_meet
            exact ⟨_, HA.out.step h5 (HA.out.inv.join n id via HO.out.2.2.2) k5⟩
          · have EV : Hid (errV (R.joinC n id via) = .iface 34 (.int .i64 (R.joinC n id via))) := errV_code qc
            have eb : (R.joinC n id via == 5) = false := by simpa using nb
            clear nb qc
            go_wp2_with (first
              | (go_at_call 7; refine (join_r r gp gk R n id via _ HA.out.ring HO.out.2.2.2 HO.out.2.2.1).mono ?_; rintro e w5 ⟨rfl, h5, k5⟩; rw [EV.out]; have H5 : Hid (Rn w w5 r gp gk (R.join n id via)) := HA.out.step h5 (HA.out.inv.join n id via HO.out.2.2.2) k5; clear h5 k5)
              | (go_at_call 6; refine (of_code _ _ (HE.out.below HE.out.lt H5.out.bel)).mono ?_; rintro e w6 ⟨rfl, b6⟩))
            go_meet
            exact ⟨_, H5.out.below b6⟩
        have k1' : (kd == 1) = false := by simpa using k1
        by_cases k2 : kd = 2
        · subst k2
          go_wp2_with (go_at_call 8; refine (fail_r r gp gk R n _ HA.out.ring).mono ?_; rintro e w5 ⟨rfl, h5, k5⟩)
          go_meet
          exact ⟨_, HA.out.step h5 (HA.out.inv.fail n) k5⟩
        have k2' : (kd == 2) = false := by simpa using k2
        by_cases k3 : kd = 3
        · subst k3
          go_wp2_with (go_at_call 9; refine (stab_r r gp gk R n _ HA.out.ring HO.out.2.1).mono ?_; rintro e w5 ⟨rfl, h5, k5⟩)
          go_meet
          exact ⟨_, HA.out.step h5 (HA.out.inv.stab n) k5⟩
        have k3' : (kd == 3) = false := by simpa using k3
        by_cases k4 : kd = 4
        · subst k4
          go_wp2_with (go_at_call 10; refine (round_r r gp gk R _ HA.out.ring).mono ?_; rintro e w5 ⟨rfl, h5, k5⟩)
          go_meet
          exact ⟨_, HA.out.step h5 HA.out.inv.round k5⟩
        have k4' : (kd == 4) = false := by simpa using k4
        go_wp2
        go_meet
        exact ⟨_, HA.out⟩
      case rest =>
        clear HA y0 y1 y2 y3 zz
        obtain ⟨R2, h2⟩ := hcut.out
        have H2 : Hid (Rn w wc r gp gk R2) := h2
        clear h2 hcut
        go_wp2_with fail
        refine (live_r r gp gk R2 _ H2.out.ring).mono ?_
        rintro e w5 ⟨la, lc, rfl, hL, _, b5⟩
        have H5 : Hid (Rn w w5 r gp gk R2 ∧ InIn w5 la R2.live.length R2.live) := ⟨H2.out.below b5, hL⟩
        have hll : R2.live.length ≤ 32 := liveTo_len R2 32
        clear hL b5 H2
        go_wp2
        go_loopg [78] R2.live.length (fun kx s wr => ∃ j : Nat, s = .int .i64 j ∧ j ≤ R2.live.length ∧ kx = R2.live.length - j ∧ Hid (Below w5.heap.size w5 wr))
        case atStart => exact ⟨0, rfl, Nat.zero_le _, rfl, (Below.refl _ _ : Below w5.heap.size w5 w5)⟩
        case round =>
          obtain ⟨j, rfl, hj, rfl, HB⟩ := hrel
          by_cases hjl : j < R2.live.length
          · obtain ⟨d1, o1, rfl, hd1, _, hc1⟩ := (H5.out.2.below (Nat.le_refl _) HB.out).one (v := Value.int .i64) (fun _ => rfl) (i := j) hjl
            have hx : R2.live.getD j 0 ∈ R2.live := by
              have e : R2.live.getD j 0 = R2.live[j] := by simp [List.getD, hjl]
              rw [e]; exact List.getElem_mem _
            have HX : Hid (R2.lives (R2.live.getD j 0) = true) := ((mem_live R2 _).1 hx).2.2
            clear hx
            generalize R2.live.getD j 0 = x at hc1 HX
            go_wp2_with (go_at_call 12; refine (reaches_r r gp gk R2 x _ (H5.out.1.ring.below HB.out) H5.out.1.inv HX.out).mono ?_; rintro e w6 ⟨rfl, b6⟩)
            go_roundg (R2.live.length - (j + 1))
            case measure => omega
            case rel => exact ⟨j + 1, by go_num, by omega, rfl, HB.out.trans (b6.mono HB.out.size)⟩
          · have H6 : Hid (Rn w wr r gp gk R2) := H5.out.1.below HB.out
            go_wp2_with (go_at_call 13; refine (turns_r r gp gk R2 _ H6.out.ring H6.out.inv).mono ?_; rintro e w6 ⟨rfl, b6⟩)
            go_roundg (len1 - (k + 1))
            case measure => omega
            case rel => exact ⟨k + 1, by go_num, by omega, by omega, rfl, ⟨_, H6.out.below b6⟩⟩
    · have hq2 : k < len1 → ¬ k < 100 := fun h1 h2 => hlt ⟨h1, h2⟩
      clear hlt
      by_cases q3 : k < len1
      · have q5 : ¬ k < 100 := hq2 q3
        clear hq2
        go_wp2
        go_ret
        exact ⟨rfl, HS.out.bel⟩
      · clear hq2
        go_wp2
        go_ret
        exact ⟨rfl, HS.out.bel⟩

/-! ### The row's step -/
set_option maxRecDepth 100000 in
theorem lifted (os : Os) (started : os.Started) (H : Type) (enc : TypeId × Value → H) :
    ReturnsInHanded {} Tryd.checked os 3 .any (fun w args => (Rows.chordAlwaysSpec.pre enc Tryd.prog Tryd.f3 [] false w args ∧ laidMetH Tryd.prog Rows.chordAlwaysRow.laid w) ∧ sizedMet enc Tryd.prog Tryd.f3 (OpenSpec.ofChange Rows.chordAlwaysSpec) false w args) (Rows.chordAlwaysSpec.post enc Tryd.prog Tryd.f3 false true false false) := by
  refine returnsInHanded_of_change_and (C := Tryd.checked) (X := fun w _ => laidMetH Tryd.prog Rows.chordAlwaysRow.laid w) (fun _ _ _ hh h => h.of_heap hh) own started (by kernel_rfl) Tryd.func3
    (ChangeSpec.witness_at (enc := enc) (C := Tryd.checked) (os := os) (X := fun w _ => laidMetH Tryd.prog Rows.chordAlwaysRow.laid w) false ({ World.holding Tryd.prog os ⟨#[], #[], []⟩ with heap := (World.holding Tryd.prog os ⟨#[], #[], []⟩).heap.modify 0 fun | .cells _ t frozen => .cells #[.iface 97 (.agg #[.pointer (some ⟨1, 26, none⟩)])] t frozen | o => o }) #[.slice none 0 0, .slice none 0 0] 8 rfl (by kernel_rfl) (by kernel_rfl) (by kernel_rfl) (by kernel_rfl) (by kernel_rfl) (laidMetH_of_parts (laidMet_nil _ _) (by kernel_rfl))) ?_
  intro W base args ds gs before hval0 hW _ _ hL _
  have hval : ∀ (j : Nat) t v, Tryd.f3.params[j]? = some t → args[j]? = some v → Value.okWide Tryd.prog W .any base t v := hval0
  have hW' := hW
  obtain ⟨p, q, hA0, hV, rfl, hfz, hnd⟩ := hW
  have hA : DataW.TrodAll enc Tryd.prog W 0 (fun _ => true) true Tryd.f3.params.toList args.toList ds p := hA0
  rw [Tryd.params3] at hA hval
  obtain ⟨v0, vs0, d0, ds0, p0, q0, hargs, rfl, rfl, h0, r0⟩ := trodAll_cons hA
  obtain ⟨v1, vs1, d1, ds1, p1, q1, rfl, rfl, rfl, h1, r1⟩ := trodAll_cons r0
  obtain ⟨rfl, rfl, rfl⟩ := trodAll_nil r1
  obtain rfl : args = #[v0, v1] := by cases args; simp_all
  obtain ⟨rfl, rfl⟩ := trodVars_none hV
  obtain ⟨a0, len0, cap0, rfl⟩ := okWide_slice Tryd.underlying22 (hval 0 22 v0 rfl rfl)
  have k0 := h0
  have lt0 : ∀ x ∈ p0, x.block < W.heap.size := by obtain ⟨m, hm⟩ := k0; exact DataW.trod_lt m _ _ _ hm
  obtain ⟨t0, w0⟩ : ∃ ts, InRow 1 encU Go.Proofs.YtgpamiggdeopbaaDoor.u64 0 W a0 len0 ts := by
    obtain ⟨fuel, hf⟩ := h0
    exact inrow_of 1 encU Go.Proofs.YtgpamiggdeopbaaDoor.u64 0 22 31 Tryd.underlying22 cellsU1 (by omega) lenU (fun n cs x => uid_of n cs x) hf
  obtain ⟨a1, len1, cap1, rfl⟩ := okWide_slice Tryd.underlying23 (hval 1 23 v1 rfl rfl)
  have k1 := h1
  have lt1 : ∀ x ∈ p1, x.block < W.heap.size := by obtain ⟨m, hm⟩ := k1; exact DataW.trod_lt m _ _ _ hm
  obtain ⟨t1, w1⟩ : ∃ ts, InRow 4 Ac10.cells Ac10.ok ac100 W a1 len1 ts := by
    obtain ⟨fuel, hf⟩ := h1
    exact inrow_of 4 Ac10.cells Ac10.ok ac100 23 33 Tryd.underlying23 cellsAc10 (by omega) lenAc10 (fun n cs x => ac10_of n cs x) hf
  clear hA0 hval0
  have hE := handle_of_laid hL
  refine (walk a0 len0 cap0 t0 a1 len1 cap1 t1 W hE w0 w1).mono fun e W' ⟨he, bel⟩ => ?_
  subst he
  exact ⟨_, rfl, _, _, _, [], _, [], hW', trodAll_mk1 (shut_bool Tryd.underlying4 _), (trodAll_cons_mk (Below.trod laidOut (by kernel_rfl) (of_decide_eq_true (by kernel_rfl)) k0 bel lt0) (trodAll_cons_mk (Below.trod laidOut (by kernel_rfl) (of_decide_eq_true (by kernel_rfl)) k1 bel lt1) trodAll_mk0)), rfl, bel.frame _, fun h => by cases h⟩

theorem over : Rows.chordAlwaysRow.holds Tryd.pinned (OpenSpec.ofChange Rows.chordAlwaysSpec) :=
  OpenClaim.holds_of_wide 3 Tryd.f3 rfl rfl rfl rfl rfl rfl rfl ⟨rfl, rfl, rfl, rfl, rfl⟩ rfl rfl rfl rfl rfl (by kernel_rfl) Tryd.func3 (by kernel_rfl)
    (of_decide_eq_true (by kernel_rfl)) (by unfold Func.isWrapper; first | (rw [if_pos (by decide +kernel)]; kernel_rfl) | (rw [if_neg (by decide +kernel)]; exact ⟨rfl, rfl⟩))
    (fun os started H enc _ => lifted os started H enc)

theorem card : Rows.ChordAlwaysCardSaid :=
  Claim7.holds_tied_plain_at .later [] [.handle] true (true, "26d1cb11ba510039620dba153258d922530c9765688d1939ef55ca24590f3739") true
    over (fun _ h => by cases h) (by kernel_rfl) (fun _ h => by cases h) chordAlways_row_tie rfl ⟨rfl, rfl⟩ (by kernel_rfl) rfl
    (fun f fn hf hfn => by
      obtain rfl : f = 3 := Option.some.inj ((show Tryd.prog.funcNamed "wigwag/wigwaglaw10.ChordAlways" = some 3 by kernel_rfl).symm.trans hf) |>.symm
      obtain rfl : fn = Tryd.f3 := (Option.some.inj (Tryd.func3.symm.trans hfn)).symm
      exact ⟨by kernel_rfl, fun j t ht => by
        rw [Tryd.params3] at ht
        have hall : ∀ t ∈ ([22, 23] : List TypeId), Tryd.prog.wantsStandIn t = false := by
          intro t ht
          simp only [List.mem_cons, List.not_mem_nil, or_false] at ht
          rcases ht with rfl | rfl <;> kernel_rfl
        exact hall t (by simpa using List.mem_of_getElem? (l := ([22, 23] : List TypeId)) (i := j) (by simpa using ht))⟩)
    (by kernel_rfl)

end Go.Proofs.YtgpamiggdeopbaaDoor.chordAlways

namespace Go.Proofs.YtgpamiggdeopbaaDoor
/-- Proved: for every list of places and every list of calls: behind each of any 100 calls each member has a head, from each one one comes to every base member, round from a base member one goes round the circle once, and Join is never ErrBusy; errors.errorType being laid as the program's text lays it (the card's tie, over the pruned copy). -/
theorem chordAlways_holds : Rows.ChordAlwaysCardSaid := chordAlways.card
#print axioms chordAlways_holds
end Go.Proofs.YtgpamiggdeopbaaDoor
