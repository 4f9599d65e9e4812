/- Proved: for every list of places and every list of calls: both rings begin with the same code, and behind each of any 60 calls the codes are alike and all members know just what they should; errors.errorType being laid as the program's text lays it (the card's tie, over the pruned copy).
  The frame is the guide's own shell (proof-skeleton.mjs) at this function; the walk and all ahead of it are mine. -/
import Derived.Test.YtgiiadjocfnhlaaGreatDoorRows
import Derived.Test.YtgiiadjocfnhlaaGreatDoorJoinPrInts
import Derived.Test.YtgiiadjocfnhlaaGreatDoorJoinPeSame
import Derived.Test.YtgiiadjocfnhlaaGreatDoorRfM
import Derived.Test.YtgiiadjocfnhlaaGreatDoorInCap
import Derived.Test.YtgiiadjocfnhlaaGreatDoorIdCirc
import Derived.Test.YtgiiadjocfnhlaaGreatDoorIdOwn
import Derived.Test.YtgiiadjocfnhlaaGreatDoorChPlay
import Derived.Deep.CutBlock
import Derived.Deep.DeepCutAuto
import Derived.Deep.LoopGhost
import Derived.WalkKit
import Derived.WalkLawsBesides
import Derived.ProofKit
import Derived.OpenShut
import Derived.ChangeSame
import Derived.ChangeVars
import Derived.JoinedOf
import Derived.RowKit
import Derived.RowKitTokens
import Derived.LaidLaws
import Derived.LaidHandle
import Derived.Stop.Joined
import Derived.SevenTiedAt
import Derived.Test.YtgiiadjocfnhlaaGreatDoorTie
import Derived.Test.YtgiiadjocfnhlaaGreatDoorCards
import Derived.ShutString
import Derived.ChangeOld
import Derived.Below
namespace Go.Proofs.YtgiiadjocfnhlaaGreatDoor.chordPlays
open Go.ChangeShapes Go.WideShapes Go.ChangeAt Go.RowKit
open Go.ChangeMaps (open_string shut_string)
set_option linter.unusedVariables false

theorem own : ownKnob Tryz.prog.godebug = none := by kernel_rfl
theorem laidOut : laidOutB Tryz.prog = true := by kernel_rfl


theorem et : Tryz.prog.globalNamed "errors.errorType" = some 0 := by kernel_rfl
theorem rt : (Tryz.prog.cutTypes.find? (·.1 == "internal/reflectlite.rtype")).map (·.2) = some 148 := by kernel_rfl
theorem oneRow : ((List.range 222).filter fun t => Tryz.prog.rowNamed t [101, 114, 114, 111, 114]) = [26] := by kernel_rfl
theorem typesSize : Tryz.prog.types.size = 222 := by kernel_rfl
/-- What the tied variable gives a walk: its one cell. -/
theorem handle_of_laid {W : World} (h : laidMetH Tryz.prog Rows.chordPlaysRow.laid W) : ErrType W := by
  have h' : laidMet Tryz.prog [] W ∧ handlesMet Tryz.prog Rows.chordPlaysRow.laid W := h
  obtain ⟨name, u, ty, e1, e2, e3, e4, e5⟩ := h'.2 _ (List.mem_singleton.2 rfl)
  have en : name = [101, 114, 114, 111, 114] := (Option.some.inj e1).symm
  subst en
  obtain rfl := Option.some.inj (rt.symm.trans e2)
  have hm : ty ∈ (List.range 222).filter fun t => Tryz.prog.rowNamed t [101, 114, 114, 111, 114] := List.mem_filter.2 ⟨List.mem_range.2 (by rw [← typesSize]; exact e3), e4⟩
  rw [oneRow] at hm
  obtain rfl := List.mem_singleton.1 hm
  have hh : typeHandle Tryz.prog 26 = .pointer (some ⟨1, 26, none⟩) := by kernel_rfl
  rw [hh] at e5
  unfold ErrType
  simpa using World.var?_cell et e5 0

/-! ### STEP 1: the walk -/
set_option maxRecDepth 100000 in
set_option maxHeartbeats 20000000 in
theorem walk (a0 : Option Addr) (len0 cap0 : Nat) (t0 : List Int) (a1 : Option Addr) (len1 cap1 : Nat) (t1 : List Ac10) (w : World) (hE : ErrType w) (w0 : InRow 1 encU Go.Proofs.YtgiiadjocfnhlaaGreatDoor.u64 0 w a0 len0 t0) (c0 : len0 ≤ cap0) (w1 : InRow 4 Ac10.cells Ac10.ok ac100 w a1 len1 t1) (c1 : len1 ≤ cap1) :
    Calls Tryz.prog 3 #[.slice a0 len0 cap0, .slice a1 len1 cap1] w fun e w' => e = .returned (.bool true) ∧ Below w.heap.size w w' := by
  have HI : Hid (IdIn w a0 len0 t0) := w0
  have HT : Hid (AcIn w a1 len1 t1) := w1
  have HE : Hid (ErrType w) := hE
  have hm0 := w0.2.1
  have hm1 := w1.2.1
  have hcp : len0 ≤ cap0 := c0
  clear w0 w1 hE c0 c1
  go_enter Tryz.func3, Tryz.ntmps3
  go_upto_if 14 with fail
  go_cut [0] (fun v wx => ∃ (n c : Nat) (l : List Int), v = .slice a0 n c ∧ n ≤ 6 ∧ w = wx ∧ Hid (IdIn w a0 n l))
  case first =>
    by_cases q6 : 6 < len0
    · have e6 := fun W => sl_to6 a0 len0 cap0 W q6 hcp
      have q6' : (6 : Int) < (len0 : Int) := by omega
      go_wp2
      go_meet
      exact ⟨6, cap0, t0.take 6, rfl, Nat.le_refl _, rfl, in_take HI.out 6 (by omega)⟩
    · have q6' : ¬ (6 : Int) < (len0 : Int) := by omega
      go_wp2
      go_meet
      exact ⟨len0, cap0, t0, rfl, by omega, rfl, HI.out⟩
  case rest =>
    obtain ⟨n, c, l, rfl, hn6, hwx, HL⟩ := hcut
    subst hwx
    clear HI hcp hm0
    go_wp2_with fail
    refine (cnew_c a0 n c l _ HL.out).mono ?_
    rintro e w2 ⟨h2, b2⟩
    have H2 : Hid (Below w.heap.size w w2) := b2
    clear b2
    rcases h2 with ⟨ec, hec, hne, rfl⟩ | ⟨S, r, gp, gk, hne, hp, hm, rfl, hrn, hpl⟩
    · have HNC : Hid (NewC n l ec) := hne
      clear hne
      go_wp2_with fail
      refine (nums_r a0 n c l _ (HL.out.below (Nat.le_refl _) H2.out) hn6).mono ?_
      rintro e w3 ⟨ua, uc, rfl, hu, b3⟩
      have H3 : Hid (Below w.heap.size w w3 ∧ IdIn w3 ua n l) := ⟨H2.out.trans (b3.mono H2.out.size), hu⟩
      clear b3 hu
      go_wp2_with fail
      refine (rnew_c ua n uc l _ H3.out.2).mono ?_
      rintro e w4 ⟨x0, x1, x2, x3, cc, hcc, rfl, hsl, _, b4⟩
      obtain rfl : cc = ec := hcc.uniq HNC.out
      obtain ⟨⟨p0, p1, p2, rfl⟩, ⟨p3, p4, p5, rfl⟩, ⟨p6, p7, p8, rfl⟩, ⟨p9, p10, p11, rfl⟩⟩ := hsl
      obtain ⟨W4, hW4⟩ : ∃ W4, W4 = w4.alloc (.cells #[.slice p0 p1 p2, .slice p3 p4 p5, .slice p6 p7 p8, .slice p9 p10 p11] 35) := ⟨_, rfl⟩
      have H4 : Hid (Below w.heap.size w W4) := by
        have q := H3.out.1.trans (b4.mono H3.out.1.size)
        rw [hW4]; exact q.trans ((below_one _ _).mono q.size)
      have n1 : (cc != cc) = false := by simp
      have n2 : (cc != 0) = true := by simpa using hec
      clear b4 hcc HNC H3 H2
      go_upto_region 5 with fail
      rw [← hW4]
      clear hW4
      go_wp2_with fail
      refine (awake10_any _).mono ?_
      rintro e w5 ⟨rfl, b5⟩
      have H5 : Hid (Below w.heap.size w w5) := H4.out.trans (b5.mono H4.out.size)
      clear b5
      go_wp2_with fail
      refine (of_code cc _ (HE.out.below HE.out.lt H5.out)).mono ?_
      rintro e w6 ⟨rfl, b6⟩
      go_wp2
      go_ret
      exact ⟨rfl, H5.out.trans (b6.mono H5.out.size)⟩
    · have HNC : Hid (NewC n l 0 ∧ S.Pairwise (· < ·) ∧ ∀ x, x ∈ S ↔ x ∈ l) := ⟨hne, hp, hm⟩
      have HRN : Hid (Rn w w2 r gp gk (newTo l (circleOf l S) 4) ∧ PlR (newTo l (circleOf l S) 4)) := ⟨hrn, hpl⟩
      clear hne hp hm hrn hpl
      go_wp2_with fail
      refine (nums_r a0 n c l _ (HL.out.below (Nat.le_refl _) H2.out) hn6).mono ?_
      rintro e w3 ⟨ua, uc, rfl, hu, b3⟩
      have H3 : Hid (Below w2.heap.size w2 w3 ∧ IdIn w3 ua n l) := ⟨b3, hu⟩
      clear b3 hu
      go_wp2_with fail
      refine (rnew_c ua n uc l _ H3.out.2).mono ?_
      rintro e w4 ⟨x0, x1, x2, x3, cc, hcc, rfl, hsl, hv, b4⟩
      obtain rfl : cc = 0 := hcc.uniq HNC.out.1
      obtain ⟨S', h1, h2, h3⟩ := hv rfl
      have eS : S' = S := rising_same S' S h1 HNC.out.2.1 (fun x => by rw [h2 x, HNC.out.2.2 x])
      subst eS
      have HS : Hid (Sl4 x0 x1 x2 x3) := hsl
      obtain ⟨⟨p0, p1, p2, rfl⟩, ⟨p3, p4, p5, rfl⟩, ⟨p6, p7, p8, rfl⟩, ⟨p9, p10, p11, rfl⟩⟩ := hsl
      obtain ⟨W4, hW4⟩ : ∃ W4, W4 = w4.alloc (.cells #[.slice p0 p1 p2, .slice p3 p4 p5, .slice p6 p7 p8, .slice p9 p10 p11] 35) := ⟨_, rfl⟩
      have B24 : Below w2.heap.size w2 w4 := H3.out.1.trans (b4.mono H3.out.1.size)
      have H4 : Hid (MdJ w W4 r gp gk (newTo l (circleOf l S') 4) w4.heap.size (.slice p0 p1 p2) (.slice p3 p4 p5) (.slice p6 p7 p8) (.slice p9 p10 p11)) := by
        rw [hW4]
        exact ⟨(HRN.out.1.below B24).below (below_one _ _), heap_alloc_new w4 _, h3.below (below_one _ _), HS.out, Nat.le_trans HRN.out.1.bel.size B24.size, HRN.out.2⟩
      clear b4 hcc HNC H3 H2 hv h1 h2 h3 B24 HRN HS
      go_upto_region 5 with fail
      rw [← hW4]
      clear hW4
      generalize w4.heap.size = q at H4 ⊢
      go_wp2_with fail
      refine (awake10_any _).mono ?_
      rintro e w5 ⟨rfl, b5⟩
      have H5 : Hid (∃ R y0 y1 y2 y3, MdJ w w5 r gp gk R q y0 y1 y2 y3) := ⟨_, _, _, _, _, H4.out.below b5⟩
      clear b5 H4
      go_wp2_with (go_at_call 12; refine (of_nil _).mono ?_; rintro e w6 ⟨rfl, hw6⟩; subst w6)
      go_loopg [9] len1 (fun kx s wr => ∃ i : Nat, s = .int .i64 i ∧ i ≤ len1 ∧ i ≤ 60 ∧ kx = len1 - i ∧ Hid (∃ R y0 y1 y2 y3, MdJ w wr r gp gk R q y0 y1 y2 y3))
      case atStart => exact ⟨0, rfl, Nat.zero_le _, Nat.zero_le _, rfl, H5⟩
      case round =>
        obtain ⟨i, rfl, hi1, hiN, rfl, HB⟩ := hrel
        clear H5
        obtain ⟨R, y0, y1, y2, y3, hM⟩ := HB.out
        have HM : Hid (MdJ w wr r gp gk R q y0 y1 y2 y3) := hM
        obtain ⟨⟨p0, p1, p2, rfl⟩, ⟨p3, p4, p5, rfl⟩, ⟨p6, p7, p8, rfl⟩, ⟨p9, p10, p11, rfl⟩⟩ := hM.sl
        clear hM HB
        by_cases hlt : i < len1 ∧ i < 60
        · obtain ⟨hlt, hltN⟩ := hlt
          have hN' : (i : Int) < 60 := by omega
          have hiI : (0 : Int) ≤ (i : Int) ∧ (i : Int) < (len1 : Int) := by omega
          obtain ⟨b, o, hab, hbb, hok, z0, z1, z2, z3⟩ := AcIn.at (HT.out.below (Nat.le_refl _) HM.out.rn.bel) hlt
          subst hab
          generalize t1.getD i ac100 = t at hok z0 z1 z2 z3
          obtain ⟨kd, m, via, id⟩ := t
          have HO : Hid (Ac10.ok ⟨kd, m, via, id⟩) := hok
          clear hok
          simp only at z0 z1 z2 z3
          obtain ⟨c0, c1, c2, c3, cl⟩ := c4_block HM.out.box
          have HDO : Hid (∀ W, Below wr.heap.size wr W → Calls Tryz.prog 13 #[.pointer (some ⟨r, 0, none⟩), .agg #[.slice p0 p1 p2, .slice p3 p4 p5, .slice p6 p7 p8, .slice p9 p10 p11], .agg #[.int .i64 kd, .int .i64 m, .int .i64 via, .int .u64 id]] W fun e w' => ∃ R' v', e = .returned (.tuple #[v', .bool true]) ∧ Rn w w' r gp gk R' ∧ RfV w' R' v' ∧ PlR R' ∧ Kp wr w' gp gk ∧ Kp W w' gp gk) := fun W hW => by
            refine (does_r w r gp gk R _ kd m via id W HE.out (HM.out.rn.below hW) (HM.out.v.below hW) HO.out).mono ?_
            rintro e w' ⟨R', v', he, h1, h2, h3, h4⟩
            exact ⟨R', v', he, h1, h2, h4 HM.out.pl, (Kp.ofBelow hW).trans h3, h3⟩
          clear HO
          go_upto_region 12 with fail
          have hgs := HM.out.rn.ring.gs
          have hwl := HM.out.rn.bel.size
          go_cut [10, 11] (fun p u wx => ∃ (R' : Rg) (za : Option Addr) (zb : Nat) (zc : Option Addr) (zd : Nat) (ze : Option Addr) (zf : Nat) (zg : Option Addr) (zh : Nat) (q9 : Nat), p = .pointer (some ⟨q9, 0, none⟩) ∧ u = .bool true ∧ Hid (MdC w wr wx r gp gk R' q9 (.slice za 32 zb) (.slice zc 32 zd) (.slice ze 32 zf) (.slice zg 32 zh) ∧ PlR R'))
          case first =>
            go_region_law
              ((go_simp; go_at_call 13; refine Calls.mono (HDO.out _ (by first | exact ⟨rfl, rfl, rfl, Nat.le_refl _, fun _ _ => rfl⟩ | exact ⟨rfl, rfl, rfl, by simp, fun k hk => Below.heap_alloc _ _ k hk⟩)) ?_; rintro e w9 ⟨R', v', rfl, h9, hv9, hp9, k9, k9'⟩
                obtain ⟨e0, e1, e2, e3, rfl, za, zb, zc, zd, ze, zf, zg, zh, rfl, rfl, rfl, rfl⟩ := hv9.shape
                try
                  have hz : w9.heap[wr.heap.size]? = some (.cells #[.slice none 0 0, .slice none 0 0, .slice none 0 0, .slice none 0 0] 35 (0, 0)) := (k9'.block wr.heap.size (by simp) (by omega) (by omega)).trans (heap_alloc_new _ _)
                  obtain ⟨s0, s1, s2, s3, sl⟩ := c4_block hz
                  have f0 := fz_block hz 0
                  have f1 := fz_block hz 1
                  have f2 := fz_block hz 2
                  have f3 := fz_block hz 3))
            all_goals (try go_wp2_with fail)
            all_goals go_meet
            all_goals first
              | (have hz1 := hz; exact ⟨R', za, zb, zc, zd, ze, zf, zg, zh, wr.heap.size, rfl, rfl, ⟨MdC.b h9 hv9 k9 hwl hz1, hp9⟩⟩)
              | exact ⟨R', za, zb, zc, zd, ze, zf, zg, zh, w9.heap.size, rfl, rfl, ⟨MdC.a h9 hv9 k9, hp9⟩⟩
          case rest =>
            rename World => X9
            obtain ⟨R', za, zb, zc, zd, ze, zf, zg, zh, q9, rfl, rfl, HC⟩ := hcut
            obtain ⟨⟨hnew, h9, hv9, k9⟩, hp9⟩ := HC.out
            have hst := HM.out.step h9 hv9 k9 ⟨⟨_, _, _, rfl⟩, ⟨_, _, _, rfl⟩, ⟨_, _, _, rfl⟩, ⟨_, _, _, rfl⟩⟩ hp9
            obtain ⟨X10, hX10⟩ : ∃ X10, X10 = set4 X9 q (.slice za 32 zb) (.slice zc 32 zd) (.slice ze 32 zf) (.slice zg 32 zh) := ⟨_, rfl⟩
            have HS1 : Hid (MdJ w X10 r gp gk R' q (.slice za 32 zb) (.slice zc 32 zd) (.slice ze 32 zf) (.slice zg 32 zh)) := by rw [hX10]; exact hst.1
            unfold set4 at hX10
            clear c0 c1 c2 c3 cl z0 z1 z2 z3 HDO
            obtain ⟨c0, c1, c2, c3, cl⟩ := c4_block hst.2
            obtain ⟨d0, d1, d2, d3, dl⟩ := c4_block hnew
            have sf := fz_block hst.2
            clear hst hnew h9 hv9 k9 hp9 HC HM
            go_upto_region 14 with fail
            rw [← hX10]
            clear hX10 c0 c1 c2 c3 cl d0 d1 d2 d3 dl sf
            obtain ⟨c0, c1, c2, c3, cl⟩ := c4_block HS1.out.box
            go_wp2_with fail
            refine (shows_r r gp gk R' _ _ (HE.out.below HE.out.lt HS1.out.rn.bel) HS1.out.rn.ring HS1.out.rn.inv HS1.out.v HS1.out.pl).mono ?_
            rintro e w11 ⟨rfl, b11⟩
            clear c0 c1 c2 c3 cl
            go_wp2
            go_roundg (len1 - (i + 1))
            case measure => omega
            case rel => exact ⟨i + 1, by go_num, by omega, by omega, rfl, ⟨_, _, _, _, _, HS1.out.below b11⟩⟩
        · have hq2 : i < len1 → ¬ (i : Int) < 60 := fun h1 h2 => hlt ⟨h1, by omega⟩
          clear hlt
          by_cases q3 : i < len1
          · have q5 := hq2 q3
            clear hq2
            go_wp2
            go_ret
            exact ⟨rfl, HM.out.rn.bel⟩
          · clear hq2
            go_wp2
            go_ret
            exact ⟨rfl, HM.out.rn.bel⟩

/-! ### The row's step -/
set_option maxRecDepth 100000 in
theorem lifted (os : Os) (started : os.Started) (H : Type) (enc : TypeId × Value → H) :
    ReturnsInHanded {} Tryz.checked os 3 .any (fun w args => (Rows.chordPlaysSpec.pre enc Tryz.prog Tryz.f3 [] false w args ∧ laidMetH Tryz.prog Rows.chordPlaysRow.laid w) ∧ sizedMet enc Tryz.prog Tryz.f3 (OpenSpec.ofChange Rows.chordPlaysSpec) false w args) (Rows.chordPlaysSpec.post enc Tryz.prog Tryz.f3 false true false false) := by
  refine returnsInHanded_of_change_and (C := Tryz.checked) (X := fun w _ => laidMetH Tryz.prog Rows.chordPlaysRow.laid w) (fun _ _ _ hh h => h.of_heap hh) own started (by kernel_rfl) Tryz.func3
    (ChangeSpec.witness_at (enc := enc) (C := Tryz.checked) (os := os) (X := fun w _ => laidMetH Tryz.prog Rows.chordPlaysRow.laid w) false ({ World.holding Tryz.prog os ⟨#[], #[], []⟩ with heap := (World.holding Tryz.prog os ⟨#[], #[], []⟩).heap.modify 0 fun | .cells _ t frozen => .cells #[.iface 148 (.agg #[.pointer (some ⟨1, 26, none⟩)])] t frozen | o => o }) #[.slice none 0 0, .slice none 0 0] 8 rfl (by kernel_rfl) (by kernel_rfl) (by kernel_rfl) (by kernel_rfl) (by kernel_rfl) (laidMetH_of_parts (laidMet_nil _ _) (by kernel_rfl))) ?_
  intro W base args ds gs before hval0 hW _ _ hL _
  have hval : ∀ (j : Nat) t v, Tryz.f3.params[j]? = some t → args[j]? = some v → Value.okWide Tryz.prog W .any base t v := hval0
  have hW' := hW
  obtain ⟨p, q, hA0, hV, rfl, hfz, hnd⟩ := hW
  have hA : DataW.TrodAll enc Tryz.prog W 0 (fun _ => true) true Tryz.f3.params.toList args.toList ds p := hA0
  rw [Tryz.params3] at hA hval
  obtain ⟨v0, vs0, d0, ds0, p0, q0, hargs, rfl, rfl, h0, r0⟩ := trodAll_cons hA
  obtain ⟨v1, vs1, d1, ds1, p1, q1, rfl, rfl, rfl, h1, r1⟩ := trodAll_cons r0
  obtain ⟨rfl, rfl, rfl⟩ := trodAll_nil r1
  obtain rfl : args = #[v0, v1] := by cases args; simp_all
  obtain ⟨rfl, rfl⟩ := trodVars_none hV
  obtain ⟨a0, len0, cap0, rfl⟩ := okWide_slice Tryz.underlying22 (hval 0 22 v0 rfl rfl)
  have k0 := h0
  have lt0 : ∀ x ∈ p0, x.block < W.heap.size := by obtain ⟨m, hm⟩ := k0; exact DataW.trod_lt m _ _ _ hm
  have c0 : len0 ≤ cap0 := by
    obtain ⟨fuel, hf⟩ := h0
    exact incap_of Tryz.underlying22 hf
  obtain ⟨t0, w0⟩ : ∃ ts, InRow 1 encU Go.Proofs.YtgiiadjocfnhlaaGreatDoor.u64 0 W a0 len0 ts := by
    obtain ⟨fuel, hf⟩ := h0
    exact inrow_of 1 encU Go.Proofs.YtgiiadjocfnhlaaGreatDoor.u64 0 22 45 Tryz.underlying22 cellsU1 (by omega) lenU (fun n cs x => uid_of n cs x) hf
  obtain ⟨a1, len1, cap1, rfl⟩ := okWide_slice Tryz.underlying23 (hval 1 23 v1 rfl rfl)
  have k1 := h1
  have lt1 : ∀ x ∈ p1, x.block < W.heap.size := by obtain ⟨m, hm⟩ := k1; exact DataW.trod_lt m _ _ _ hm
  have c1 : len1 ≤ cap1 := by
    obtain ⟨fuel, hf⟩ := h1
    exact incap_of Tryz.underlying23 hf
  obtain ⟨t1, w1⟩ : ∃ ts, InRow 4 Ac10.cells Ac10.ok ac100 W a1 len1 ts := by
    obtain ⟨fuel, hf⟩ := h1
    exact inrow_of 4 Ac10.cells Ac10.ok ac100 23 47 Tryz.underlying23 cellsAc10 (by omega) lenAc10 (fun n cs x => ac10_of n cs x) hf
  clear hA0 hval0
  have hE := handle_of_laid hL
  refine (walk a0 len0 cap0 t0 a1 len1 cap1 t1 W hE w0 c0 w1 c1).mono fun e W' ⟨he, bel⟩ => ?_
  subst he
  exact ⟨_, rfl, _, _, _, [], _, [], hW', trodAll_mk1 (shut_bool Tryz.underlying4 _), (trodAll_cons_mk (Below.trod laidOut (by kernel_rfl) (of_decide_eq_true (by kernel_rfl)) k0 bel lt0) (trodAll_cons_mk (Below.trod laidOut (by kernel_rfl) (of_decide_eq_true (by kernel_rfl)) k1 bel lt1) trodAll_mk0)), rfl, bel.frame _, fun h => by cases h⟩

theorem over : Rows.chordPlaysRow.holds Tryz.pinned (OpenSpec.ofChange Rows.chordPlaysSpec) :=
  OpenClaim.holds_of_wide 3 Tryz.f3 rfl rfl rfl rfl rfl rfl rfl ⟨rfl, rfl, rfl, rfl, rfl⟩ rfl rfl rfl rfl rfl (by kernel_rfl) Tryz.func3 (by kernel_rfl)
    (of_decide_eq_true (by kernel_rfl)) (by unfold Func.isWrapper; first | (rw [if_pos (by decide +kernel)]; kernel_rfl) | (rw [if_neg (by decide +kernel)]; exact ⟨rfl, rfl⟩))
    (fun os started H enc _ => lifted os started H enc)

theorem card : Rows.ChordPlaysCardSaid :=
  Claim7.holds_tied_plain_at .later [] [.handle] true (true, "170ad6b271f38bc5b5dbb1b4a980e5bb8601c676c340595c17378d516a0c30dd") true
    over (fun _ h => by cases h) (by kernel_rfl) (fun _ h => by cases h) chordPlays_row_tie rfl ⟨rfl, rfl⟩ (by kernel_rfl) rfl
    (fun f fn hf hfn => by
      obtain rfl : f = 3 := Option.some.inj ((show Tryz.prog.funcNamed "wigwag/wigwaglaw10.ChordPlays" = some 3 by kernel_rfl).symm.trans hf) |>.symm
      obtain rfl : fn = Tryz.f3 := (Option.some.inj (Tryz.func3.symm.trans hfn)).symm
      exact ⟨by kernel_rfl, fun j t ht => by
        rw [Tryz.params3] at ht
        have hall : ∀ t ∈ ([22, 23] : List TypeId), Tryz.prog.wantsStandIn t = false := by
          intro t ht
          simp only [List.mem_cons, List.not_mem_nil, or_false] at ht
          rcases ht with rfl | rfl <;> kernel_rfl
        exact hall t (by simpa using List.mem_of_getElem? (l := ([22, 23] : List TypeId)) (i := j) (by simpa using ht))⟩)
    (by kernel_rfl)

end Go.Proofs.YtgiiadjocfnhlaaGreatDoor.chordPlays

namespace Go.Proofs.YtgiiadjocfnhlaaGreatDoor
/-- Proved: for every list of places and every list of calls: both rings begin with the same code, and behind each of any 60 calls the codes are alike and all members know just what they should; errors.errorType being laid as the program's text lays it (the card's tie, over the pruned copy). -/
theorem chordPlays_holds : Rows.ChordPlaysCardSaid := chordPlays.card
#print axioms chordPlays_holds
end Go.Proofs.YtgiiadjocfnhlaaGreatDoor
