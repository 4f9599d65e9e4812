/- Proved: for every list of pairs, WindowPlays answers true (what came already is known, as far as it should: any 100 events, what each is); errorType is tied.
  The frame is the guide's own shell (proof-skeleton.mjs) at this function; the walk and all ahead of it are mine. -/
import Derived.Test.YtmnlbheicedloabDoorRows
import Derived.Test.YtmnlbheicedloabDoorWiRef2
import Derived.Test.YtmnlbheicedloabDoorOfCode
import Derived.Deep.QuietTactic
import Derived.BigQuiet
import Derived.Deep.RegionWith
import Derived.Deep.CutBlock
import Derived.Deep.DeepCutAuto
import Derived.Deep.LoopGhost
import Derived.WalkKit
import Derived.WalkLawsBesides
import Derived.ProofKit
import Derived.OpenShut
import Derived.ChangeSame
import Derived.ChangeVars
import Derived.JoinedOf
import Derived.RowKit
import Derived.RowKitTokens
import Derived.LaidLaws
import Derived.LaidHandle
import Derived.Stop.Joined
import Derived.SevenTiedAt
import Derived.Test.YtmnlbheicedloabDoorTie
import Derived.Test.YtmnlbheicedloabDoorCards
import Derived.ShutString
import Derived.ChangeOld
import Derived.Below
namespace Go.Proofs.YtmnlbheicedloabDoor.windowPlays
open Go.ChangeShapes Go.WideShapes Go.ChangeAt Go.RowKit
open Go.ChangeMaps (open_string shut_string)
set_option linter.unusedVariables false

theorem own : ownKnob Tryd.prog.godebug = none := by kernel_rfl
theorem laidOut : laidOutB Tryd.prog = true := by kernel_rfl


theorem bcellW {B : Nat} {w wr : World} (h : Below B w wr) (b o : Nat) (hb : b < B) : wr.cell? ⟨b, o, none⟩ = w.cell? ⟨b, o, none⟩ := h.cell (p := ⟨b, o, none⟩) hb
theorem pair_at {w wr : World} {a : Option Addr} {len : Nat} {t : List (Int × Int)} (h : InRow 2 encP okP (0, 0) w a len t) (hB : Below w.heap.size w wr) {i : Nat} (hi : i < len) :
    ∃ b o p n, a = some ⟨b, o, none⟩ ∧ b < wr.heap.size ∧ b < w.heap.size ∧ wr.cell? ⟨b, o + i * 2, none⟩ = some (.int .i64 p) ∧ wr.cell? ⟨b, o + i * 2 + 1, none⟩ = some (.int .i64 n) := by
  obtain ⟨b, o, ha, hb, hcells⟩ := h.2.2.resolve_left (by omega)
  obtain ⟨hok, hc⟩ := hcells i hi
  have s0 := (bcellW hB b (o + i * 2 + 0) hb).trans (hc 0 (by omega))
  have s1 := (bcellW hB b (o + i * 2 + 1) hb).trans (hc 1 (by omega))
  exact ⟨b, o, _, _, ha, by have := hB.size; omega, hb, s0, s1⟩
/-- The window, and beside it the document's list. -/
structure Ply (w wr : World) (g : Option Nat) (a : Option Addr) (c : Nat) (L M : List (Int × Int)) : Prop where
  win : WinAt wr w.heap.size g L
  glo : ∀ b, g = some b → w.heap.size ≤ b
  row : EvRow wr w.heap.size (.slice a M.length c) M
  ap : ∀ k, (Value.slice a M.length c).ownBlock = some k → ¬ winB w.heap.size g k
  bel : Below w.heap.size w wr
theorem Ply.below {w wr w' : World} {g : Option Nat} {a : Option Addr} {c : Nat} {L M : List (Int × Int)} (h : Ply w wr g a c L M) (hb : Below wr.heap.size wr w') : Ply w w' g a c L M :=
  ⟨h.win.below hb, h.glo, h.row.below hb, h.ap, h.bel.trans (hb.mono h.bel.size)⟩
theorem Ply.drewN {w wr : World} {g : Option Nat} {a : Option Addr} {c : Nat} {L M : List (Int × Int)} (h : Ply w wr g a c L M) (n : Nat) : Ply w (wr.drewN n) g a c L M := h.below ⟨rfl, rfl, rfl, Nat.le_refl _, fun _ _ => rfl⟩
theorem Ply.new (w : World) : Ply w ((w.alloc (.cells #[.map none] 25)).alloc (.cells #[] 30)) none (some ⟨w.heap.size + 1, 0, none⟩) 0 [] [] := by
  refine ⟨(WinAt.new w).below (below_oneW _ _), (fun b h => by cases h), ⟨⟨rfl, .inr ⟨w.heap.size + 1, 0, #[], rfl, by omega, ?_, Nat.le_refl _, Nat.zero_le _, rfl, rfl⟩⟩, by simp⟩, fun k hk => ?_, (below_oneW _ _).alloc (by simp) _⟩
  · have := heap_alloc_new (w.alloc (.cells #[.map none] 25)) (.cells #[] 30)
    simpa using this
  · rintro (h | h)
    · simp [Value.ownBlock] at hk; omega
    · cases h
/-- The document's answer first. -/
theorem Ply.rcome {w wr : World} {g : Option Nat} {a : Option Addr} {c : Nat} {L : List (Int × Int)} (h : Ply w wr g a c L L) (p n : Int) (hn : EvOk p n) (hl : L.length < 100) :
    Calls Tryd.prog 5 #[.slice a L.length c, .agg #[.int .i64 p, .int .i64 n]] wr fun e w' =>
      ∃ a' c', e = .returned (.tuple #[.slice a' (comeL L p n).length c', .int .i64 (whatL L p n), .int .i64 0]) ∧ Ply w w' g a' c' L (comeL L p n) ∧ Below wr.heap.size wr w' := by
  refine (rcome_any w.heap.size a L.length c L p n wr h.row rfl hl hn h.win.wok h.bel.size).mono ?_
  rintro e w' ⟨a', c', rfl, hr, hb, hk⟩
  refine ⟨a', c', rfl, ⟨h.win.below hb, h.glo, hr, fun k hk' hw => ?_, h.bel.trans (hb.mono h.bel.size)⟩, hb⟩
  rcases hk k hk' with q | q
  · exact h.ap k q hw
  · have := h.win.blocks hw; omega
/-- Then the program's. -/
theorem Ply.come {w wr : World} {g : Option Nat} {a : Option Addr} {c : Nat} {L M : List (Int × Int)} (h : Ply w wr g a c L M) (p n : Int) (hn : EvOk p n) :
    Calls Tryd.prog 6 #[.pointer (some ⟨w.heap.size, 0, none⟩), .int .i64 p, .int .i64 n] wr fun e w' => e = .returned (.tuple #[.int .i64 (whatL L p n), .nilIface]) ∧ ∃ g', Ply w w' g' a c (comeL L p n) M ∧ Kw wr w' (winB w.heap.size g) := by
  refine (come_any w.heap.size g L p n wr h.win hn).mono ?_
  rintro e w' ⟨rfl, g', hg', hk, hor⟩
  have hB := h.bel.size
  refine ⟨rfl, g', ⟨hg', fun b hb => ?_, ⟨row_atR h.row.row (fun x hx => hk.block x (h.row.row.lt x hx).2 (h.ap x hx)), h.row.most⟩, fun x hx hw => ?_, h.bel.trans (hk.below ?_ hB)⟩, hk⟩
  · rcases hor with e | ⟨b', e, h'⟩
    · exact h.glo b (by rw [← e]; exact hb)
    · rw [e] at hb; cases hb; omega
  · rcases hw with hw | hw
    · exact h.ap x hx (.inl hw)
    · rcases hor with e | ⟨b', e, h'⟩
      · exact h.ap x hx (.inr (by rw [← e]; exact hw))
      · rw [e] at hw; cases hw; have := (h.row.row.lt x hx).2; omega
  · rintro b (rfl | hb)
    · exact Nat.le_refl _
    · exact h.glo b hb
theorem et_below {w w' : World} (h : ErrType w) (hb : Below w.heap.size w w') : ErrType w' := by
  unfold ErrType at *
  have hl := World.block_lt_of_cell? _ _ h
  rw [hb.cell (p := ⟨0, 0, none⟩) hl]; exact h
theorem Ply.drew {w wr : World} {g : Option Nat} {a : Option Addr} {c : Nat} {L M : List (Int × Int)} (h : Ply w wr g a c L M) : Ply w wr.drew g a c L M := h.below ⟨rfl, rfl, rfl, Nat.le_refl _, fun _ _ => rfl⟩
/-- The event's box. -/
structure Bx (w : World) (z : Nat) (p n : Int) : Prop where
  blk : w.heap[z]? = some (.cells #[.int .i64 p, .int .i64 n] 30 (0, 0))
theorem Bx.c0 {w : World} {z : Nat} {p n : Int} (h : Bx w z p n) : w.cell? ⟨z, 0, none⟩ = some (.int .i64 p) := by simp [World.cell?, h.blk]
theorem Bx.c1 {w : World} {z : Nat} {p n : Int} (h : Bx w z p n) : w.cell? ⟨z, 1, none⟩ = some (.int .i64 n) := by simp [World.cell?, h.blk]
theorem Bx.lt {w : World} {z : Nat} {p n : Int} (h : Bx w z p n) : z < w.heap.size := lt_of_blockW h.blk
theorem Bx.below {w w' : World} {z : Nat} {p n : Int} (h : Bx w z p n) (hb : Below w.heap.size w w') : Bx w' z p n := ⟨(hb.block z h.lt).trans h.blk⟩
theorem Bx.kw {w w' : World} {S : Nat → Prop} {z : Nat} {p n : Int} (h : Bx w z p n) (hk : Kw w w' S) (hs : ¬ S z) : Bx w' z p n := ⟨(hk.block z h.lt hs).trans h.blk⟩
theorem et : Tryd.prog.globalNamed "errors.errorType" = some 0 := by kernel_rfl
theorem rt : (Tryd.prog.cutTypes.find? (·.1 == "internal/reflectlite.rtype")).map (·.2) = some 62 := by kernel_rfl
theorem oneRow : ((List.range 105).filter fun t => Tryd.prog.rowNamed t [101, 114, 114, 111, 114]) = [34] := by kernel_rfl
theorem typesSize : Tryd.prog.types.size = 105 := by kernel_rfl
/-- What the tied variable gives a walk: its one cell. -/
theorem handle_of_laid {W : World} (h : laidMetH Tryd.prog Rows.windowPlaysRow.laid W) : ErrType W := by
  have h' : laidMet Tryd.prog [] W ∧ handlesMet Tryd.prog Rows.windowPlaysRow.laid W := h
  obtain ⟨name, u, ty, e1, e2, e3, e4, e5⟩ := h'.2 _ (List.mem_singleton.2 rfl)
  have en : name = [101, 114, 114, 111, 114] := (Option.some.inj e1).symm
  subst en
  obtain rfl := Option.some.inj (rt.symm.trans e2)
  have hm : ty ∈ (List.range 105).filter fun t => Tryd.prog.rowNamed t [101, 114, 114, 111, 114] := List.mem_filter.2 ⟨List.mem_range.2 (by rw [← typesSize]; exact e3), e4⟩
  rw [oneRow] at hm
  obtain rfl := List.mem_singleton.1 hm
  have hh : typeHandle Tryd.prog 34 = .pointer (some ⟨1, 34, none⟩) := by kernel_rfl
  rw [hh] at e5
  unfold ErrType
  simpa using World.var?_cell et e5 0

/-! ### STEP 1: the walk -/
set_option maxRecDepth 100000 in
set_option maxHeartbeats 2000000 in
theorem walk (a0 : Option Addr) (len0 cap0 : Nat) (t0 : List (Int × Int)) (w : World) (hE : ErrType w) (w0 : InRow 2 encP okP ((0, 0) : Int × Int) w a0 len0 t0) :
    Calls Tryd.prog 3 #[.slice a0 len0 cap0] w fun e w' => e = .returned (.bool true) ∧ Below w.heap.size w w' := by
  have hmx0 := w0.2.1
  have HX : Hid (InRow 2 encP okP (0, 0) w a0 len0 t0) := w0
  have HE : Hid (ErrType w) := hE
  clear w0 hE
  have H0 : Hid _ := Ply.new w
  go_enter Tryd.func3, Tryd.ntmps3
  go_wp2_with (go_at_call 4; refine (awake14_any _).mono ?_; rintro e w1 ⟨rfl, hb1⟩; have H1 : Hid _ := H0.out.below hb1; clear hb1)
  clear H0
  go_loopw [4, 5] (fun x y wr => ∃ (i m c : Nat) (a : Option Addr) (g : Option Nat) (L : List (Int × Int)), y = .int .i64 i ∧ x = .slice a m c ∧ m ≤ i ∧ i ≤ len0 ∧ i ≤ 100 ∧ Hid (m = L.length ∧ Ply w wr g a c L L)) (fun _ y _ => 100 - (intOf y).toNat)
  case atStart => exact ⟨0, 0, 0, _, _, [], rfl, rfl, Nat.zero_le _, Nat.zero_le _, Nat.zero_le _, (⟨rfl, H1.out⟩ : 0 = List.length _ ∧ Ply _ _ _ _ _ _ _)⟩
  case round =>
    obtain ⟨i, m, c, a, g, L, rfl, rfl, hmi, hil, hi100, H⟩ := hrel
    clear H1
    by_cases hlt : i < len0 ∧ i < 100
    · obtain ⟨hl1, hl2⟩ := hlt
      have hi0 : (0 : Int) ≤ (i : Int) := Int.natCast_nonneg _
      have hi1 : (i : Int) < (len0 : Int) := by omega
      have hi2 : (i : Int) < 100 := by omega
      obtain ⟨b, o, p, n, ha, hb', hb, s0, s1⟩ := pair_at HX.out H.out.2.bel hl1
      subst ha
      go_upto_region 8 with fail
      go_cut [6] (fun v wx => ∃ z : Nat, v = .pointer (some ⟨z, 0, none⟩) ∧ wr.heap.size ≤ z ∧ wx.heap[z]? = some (.cells #[.int .i64 p, .int .i64 n] 30 (0, 0)) ∧ Hid (Below wr.heap.size wr wx))
      case first =>
        go_region
        all_goals (try go_wp2_with fail)
        all_goals go_meet
        all_goals exact ⟨_, rfl, by simp, heap_alloc_new _ _, ⟨rfl, rfl, rfl, by simp, fun k hk => by first | exact Below.heap_alloc _ _ _ hk⟩⟩
      case rest =>
        obtain ⟨z, rfl, hz, hbox, HB1⟩ := hcut
        rename World => w1
        obtain ⟨hm, hP⟩ := H.out
        subst hm
        have X1 : Hid (Bx w1 z p n) := ⟨hbox⟩
        have x0 := X1.out.c0
        have x1 := X1.out.c1
        have zl := X1.out.lt
        have H1 : Hid (Ply w w1 g a c L L) := hP.below HB1.out
        have HZ : Hid (¬ winB w.heap.size g z) := fun hk => by have := hP.win.blocks hk; omega
        clear hbox s0 s1 hb' H hP
        by_cases hE : EvOk p n
        · have HEv : Hid (EvOk p n) := hE
          clear hE
          go_wp2_with fail
          refine (H1.out.rcome p n HEv.out (by omega)).mono ?_
          rintro e w2 ⟨a', c', rfl, hP2, hb2⟩
          have X2 : Hid (Bx w2 z p n) := X1.out.below hb2
          have y0 := X2.out.c0
          have y1 := X2.out.c1
          have yl := X2.out.lt
          have H2 : Hid _ := hP2
          clear hP2 hb2 x0 x1 zl
          generalize hq : whatL L p n = k
          have HQ : Hid (whatL L p n = k) := hq
          have hcl : (comeL L p n).length ≤ L.length + 1 := by unfold comeL; split; omega; split; omega; simp
          obtain ⟨m2, hm2⟩ : ∃ m2, m2 = (comeL L p n).length := ⟨_, rfl⟩
          rw [← hm2] at hcl ⊢
          have HM2 : Hid (m2 = (comeL L p n).length) := hm2
          clear hq hm2
          go_wp2_with fail
          refine (H2.out.come p n HEv.out).mono ?_
          rintro e w3 ⟨rfl, g3, hP3, hk3⟩
          rw [HQ.out]
          have X3 : Hid (Bx w3 z p n) := X2.out.kw hk3 HZ.out
          have v0 := X3.out.c0
          have v1 := X3.out.c1
          have vl := X3.out.lt
          have H3 : Hid _ := hP3
          clear hP3 hk3 y0 y1 yl
          generalize comeL L p n = M at H2 H3 HM2
          have HRL : Hid _ := rlast_any w.heap.size a' c' M p w3.drew H3.out.drew.row
          rw [← HM2.out] at HRL
          have HWL : Hid _ := lastw_any w.heap.size g3 M p w3.drew H3.out.drew.win
          obtain ⟨l, hl⟩ : ∃ l, l = lastL M p := ⟨_, rfl⟩
          rw [← hl] at HRL HWL
          clear hl
          go_upto_region 12 with fail
          go_cut [70] (fun v wx => v = .bool false ∧ Hid (Ply w wx g3 a' c' M M))
          case first =>
            go_region_with (first
              | (go_at_call 7; refine (of_nil _).mono ?_; rintro e w' ⟨rfl, rfl⟩)
              | (go_at_call 8; refine Calls.mono HWL.out ?_; rintro e w' ⟨rfl, rfl⟩)
              | (go_at_call 9; refine Calls.mono HRL.out ?_; rintro e w4 ⟨rfl, hb4⟩; have H4 : Hid (Ply w w4 g3 a' c' M M) := H3.out.drew.below hb4; have X4 : Hid (Bx w4 z p n) := (X3.out.below ⟨rfl, rfl, rfl, Nat.le_refl _, fun _ _ => rfl⟩ : Bx w3.drew z p n).below hb4; have t0 := X4.out.c0; have tl := X4.out.lt))
            all_goals (try go_wp2_with fail)
            all_goals go_meet
            all_goals exact ⟨by simp, H4⟩
          case rest =>
            obtain ⟨rfl, H5⟩ := hcut
            go_wp2
            go_roundw
            case rel => exact ⟨i + 1, m2, c', a', g3, M, by go_num, rfl, by omega, by omega, by omega, (⟨HM2.out, H5.out⟩ : m2 = List.length _ ∧ Ply _ _ _ _ _ _ _)⟩
            case measure => simp [intOf]; omega
        · have HEv : Hid (¬ EvOk p n) := hE
          clear hE
          go_wp2_with fail
          refine (rcome_bad _ p n _ HEv.out).mono ?_
          rintro e w2 ⟨rfl, hb2⟩
          have X2 : Hid (Bx w2 z p n) := X1.out.below hb2
          have y0 := X2.out.c0
          have y1 := X2.out.c1
          have yl := X2.out.lt
          have H2 : Hid _ := H1.out.below hb2
          clear hb2 x0 x1 zl
          have HET : Hid (ErrType w2.drew) := et_below HE.out H2.out.drew.bel
          obtain ⟨l, hl⟩ : ∃ l, l = lastL L p := ⟨_, rfl⟩
          have HL : Hid (lastL L p = l) := hl.symm
          obtain ⟨m2, hm2⟩ : ∃ m2, m2 = L.length := ⟨_, rfl⟩
          rw [← hm2] at hmi ⊢
          have HM2 : Hid (m2 = L.length) := hm2
          have hrl : ∀ W, Ply w W g a c L L → Calls Tryd.prog 9 #[.slice a m2 c, .int .i64 p] W fun e w' => e = .returned (.int .i64 l) ∧ Below W.heap.size W w' := fun W hP => by
            have := rlast_any w.heap.size a c L p W hP.row
            rw [← hm2, ← hl] at this
            exact this
          have HRL : Hid _ := hrl
          clear hl hm2 hrl
          go_upto_region 12 with (go_at_call 6; refine (come_bad _ _ _ _ HEv.out).mono ?_; rintro e w3 ⟨rfl, hw3⟩; subst w3)
          go_cut [70] (fun v wx => v = .bool false ∧ Hid (Ply w wx g a c L L))
          case first =>
            go_region_with (first
              | (go_at_call 7; refine (of_code 1 _ HET.out).mono ?_; rintro e w4 ⟨rfl, hb4⟩; have H4 : Hid (Ply w w4 g a c L L) := H2.out.drew.below hb4; have X4 : Hid (Bx w4 z p n) := (X2.out.below ⟨rfl, rfl, rfl, Nat.le_refl _, fun _ _ => rfl⟩ : Bx w2.drew z p n).below hb4; have t0 := X4.out.c0; have tl := X4.out.lt)
              | (go_at_call 8; refine (lastw_any w.heap.size g L p _ H4.out.win).mono ?_; rintro e w' ⟨rfl, rfl⟩; rw [HL.out])
              | (go_at_call 9; refine Calls.mono (HRL.out _ H4.out) ?_; rintro e w5 ⟨rfl, hb5⟩; have H5 : Hid (Ply w w5 g a c L L) := H4.out.below hb5; have X5 : Hid (Bx w5 z p n) := X4.out.below hb5; have r0 := X5.out.c0; have rl := X5.out.lt))
            all_goals (try go_wp2_with fail)
            all_goals go_meet
            all_goals exact ⟨by simp, H5⟩
          case rest =>
            obtain ⟨rfl, H5⟩ := hcut
            go_wp2
            go_roundw
            case rel => exact ⟨i + 1, m2, c, a, g, L, by go_num, rfl, by omega, by omega, by omega, (⟨HM2.out, H5.out⟩ : m2 = List.length _ ∧ Ply _ _ _ _ _ _ _)⟩
            case measure => simp [intOf]; omega
    · have hor : (True ∧ ¬ (i : Int) < (len0 : Int)) ∨ ((i : Int) < (len0 : Int) ∧ ¬ (i : Int) < 100) := by
        by_cases q : (i : Int) < (len0 : Int)
        · exact .inr ⟨q, by omega⟩
        · exact .inl ⟨trivial, q⟩
      clear hlt
      rcases hor with ⟨hor', hor⟩ | ⟨hor', hor⟩
      all_goals
        go_wp2
        go_ret
        exact ⟨rfl, H.out.2.bel⟩

/-! ### The row's step -/
set_option maxRecDepth 100000 in
theorem lifted (os : Os) (started : os.Started) (H : Type) (enc : TypeId × Value → H) :
    ReturnsInHanded {} Tryd.checked os 3 .any (fun w args => (Rows.windowPlaysSpec.pre enc Tryd.prog Tryd.f3 [] false w args ∧ laidMetH Tryd.prog Rows.windowPlaysRow.laid w) ∧ sizedMet enc Tryd.prog Tryd.f3 (OpenSpec.ofChange Rows.windowPlaysSpec) false w args) (Rows.windowPlaysSpec.post enc Tryd.prog Tryd.f3 false true false false) := by
  refine returnsInHanded_of_change_and (C := Tryd.checked) (X := fun w _ => laidMetH Tryd.prog Rows.windowPlaysRow.laid w) (fun _ _ _ hh h => h.of_heap hh) own started (by kernel_rfl) Tryd.func3
    (ChangeSpec.witness_at (enc := enc) (C := Tryd.checked) (os := os) (X := fun w _ => laidMetH Tryd.prog Rows.windowPlaysRow.laid w) false ({ World.holding Tryd.prog os ⟨#[], #[], []⟩ with heap := (World.holding Tryd.prog os ⟨#[], #[], []⟩).heap.modify 0 fun | .cells _ t frozen => .cells #[.iface 62 (.agg #[.pointer (some ⟨1, 34, none⟩)])] t frozen | o => o }) #[.slice none 0 0] 8 rfl (by kernel_rfl) (by kernel_rfl) (by kernel_rfl) (by kernel_rfl) (by kernel_rfl) (laidMetH_of_parts (laidMet_nil _ _) (by kernel_rfl))) ?_
  intro W base args ds gs before hval0 hW _ _ hL _
  have hval : ∀ (j : Nat) t v, Tryd.f3.params[j]? = some t → args[j]? = some v → Value.okWide Tryd.prog W .any base t v := hval0
  have hW' := hW
  obtain ⟨p, q, hA0, hV, rfl, hfz, hnd⟩ := hW
  have hA : DataW.TrodAll enc Tryd.prog W 0 (fun _ => true) true Tryd.f3.params.toList args.toList ds p := hA0
  rw [Tryd.params3] at hA hval
  obtain ⟨v0, vs0, d0, ds0, p0, q0, hargs, rfl, rfl, h0, r0⟩ := trodAll_cons hA
  obtain ⟨rfl, rfl, rfl⟩ := trodAll_nil r0
  obtain rfl : args = #[v0] := by cases args; simp_all
  obtain ⟨rfl, rfl⟩ := trodVars_none hV
  obtain ⟨a0, len0, cap0, rfl⟩ := okWide_slice Tryd.underlying22 (hval 0 22 v0 rfl rfl)
  have k0 := h0
  have lt0 : ∀ x ∈ p0, x.block < W.heap.size := by obtain ⟨m, hm⟩ := k0; exact DataW.trod_lt m _ _ _ hm
  obtain ⟨t0, w0⟩ : ∃ ts, InRow 2 encP okP ((0, 0) : Int × Int) W a0 len0 ts := by
    obtain ⟨fuel, hf⟩ := h0
    exact inrow_of 2 encP okP ((0, 0) : Int × Int) 22 28 Tryd.underlying22 cellsP2 (by omega) lenP (fun n cs x => pair_of n cs x) hf
  clear hA0 hval0
  have hE := handle_of_laid hL
  refine (walk a0 len0 cap0 t0 W hE w0).mono fun e W' ⟨he, bel⟩ => ?_
  subst he
  exact ⟨_, rfl, _, _, _, [], _, [], hW', trodAll_mk1 (shut_bool Tryd.underlying4 _), (trodAll_cons_mk (Below.trod laidOut (by kernel_rfl) (of_decide_eq_true (by kernel_rfl)) k0 bel lt0) trodAll_mk0), rfl, bel.frame _, fun h => by cases h⟩

theorem over : Rows.windowPlaysRow.holds Tryd.pinned (OpenSpec.ofChange Rows.windowPlaysSpec) :=
  OpenClaim.holds_of_wide 3 Tryd.f3 rfl rfl rfl rfl rfl rfl rfl ⟨rfl, rfl, rfl, rfl, rfl⟩ rfl rfl rfl rfl rfl (by kernel_rfl) Tryd.func3 (by kernel_rfl)
    (of_decide_eq_true (by kernel_rfl)) (by unfold Func.isWrapper; first | (rw [if_pos (by decide +kernel)]; kernel_rfl) | (rw [if_neg (by decide +kernel)]; exact ⟨rfl, rfl⟩))
    (fun os started H enc _ => lifted os started H enc)

theorem card : Rows.WindowPlaysCardSaid :=
  Claim7.holds_tied_plain_at .later [] [.handle] true (true, "a7482ce50e2a0502bf54e9367d093287d8a327bb11dd5dc53ab23c31157fd72d") true
    over (fun _ h => by cases h) (by kernel_rfl) (fun _ h => by cases h) windowPlays_row_tie rfl ⟨rfl, rfl⟩ (by kernel_rfl) rfl
    (fun f fn hf hfn => by
      obtain rfl : f = 3 := Option.some.inj ((show Tryd.prog.funcNamed "wigwag/wigwaglaw14.WindowPlays" = some 3 by kernel_rfl).symm.trans hf) |>.symm
      obtain rfl : fn = Tryd.f3 := (Option.some.inj (Tryd.func3.symm.trans hfn)).symm
      exact ⟨by kernel_rfl, fun j t ht => by
        rw [Tryd.params3] at ht
        have hall : ∀ t ∈ ([22] : List TypeId), Tryd.prog.wantsStandIn t = false := by
          intro t ht
          simp only [List.mem_cons, List.not_mem_nil, or_false] at ht
          subst ht; kernel_rfl
        exact hall t (by simpa using List.mem_of_getElem? (l := ([22] : List TypeId)) (i := j) (by simpa using ht))⟩)
    (by kernel_rfl)

end Go.Proofs.YtmnlbheicedloabDoor.windowPlays

namespace Go.Proofs.YtmnlbheicedloabDoor
/-- Proved: for every list of pairs, WindowPlays answers true (what came already is known, as far as it should: any 100 events, what each is); errorType is tied. -/
theorem windowPlays_holds : Rows.WindowPlaysCardSaid := windowPlays.card
#print axioms windowPlays_holds
end Go.Proofs.YtmnlbheicedloabDoor
