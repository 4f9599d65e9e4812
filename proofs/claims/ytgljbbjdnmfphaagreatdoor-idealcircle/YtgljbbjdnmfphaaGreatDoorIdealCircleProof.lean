/- Proved: for every list of places and every list of calls: behind any 30 calls one goes from member 0, Succ by Succ, round all of the ideal circle, and Pred by Pred back; errors.errorType being laid as the program's text lays it (the card's tie, over the pruned copy).
  The frame is the guide's own shell (proof-skeleton.mjs) at this function; the walk and all ahead of it are mine. -/
import Derived.Test.YtgljbbjdnmfphaaGreatDoorRows
import Derived.Test.YtgljbbjdnmfphaaGreatDoorChAct
import Derived.Test.YtgljbbjdnmfphaaGreatDoorChAll
import Derived.Test.YtgljbbjdnmfphaaGreatDoorJoinPeSame
import Derived.Test.YtgljbbjdnmfphaaGreatDoorJoinRfS
import Derived.Test.YtgljbbjdnmfphaaGreatDoorIdCirc
import Derived.Deep.CutBlock
import Derived.Deep.DeepCutAuto
import Derived.Deep.LoopGhost
import Derived.WalkKit
import Derived.WalkLawsBesides
import Derived.ProofKit
import Derived.OpenShut
import Derived.ChangeSame
import Derived.ChangeVars
import Derived.JoinedOf
import Derived.RowKit
import Derived.RowKitTokens
import Derived.LaidLaws
import Derived.LaidHandle
import Derived.Stop.Joined
import Derived.SevenTiedAt
import Derived.Test.YtgljbbjdnmfphaaGreatDoorTie
import Derived.Test.YtgljbbjdnmfphaaGreatDoorCards
import Derived.ShutString
import Derived.ChangeOld
import Derived.Below
namespace Go.Proofs.YtgljbbjdnmfphaaGreatDoor.idealCircle
open Go.ChangeShapes Go.WideShapes Go.ChangeAt Go.RowKit
open Go.ChangeMaps (open_string shut_string)
set_option linter.unusedVariables false

theorem own : ownKnob Tryz.prog.godebug = none := by kernel_rfl
theorem laidOut : laidOutB Tryz.prog = true := by kernel_rfl


theorem et : Tryz.prog.globalNamed "errors.errorType" = some 0 := by kernel_rfl
theorem rt : (Tryz.prog.cutTypes.find? (·.1 == "internal/reflectlite.rtype")).map (·.2) = some 177 := by kernel_rfl
theorem oneRow : ((List.range 238).filter fun t => Tryz.prog.rowNamed t [101, 114, 114, 111, 114]) = [65] := by kernel_rfl
theorem typesSize : Tryz.prog.types.size = 238 := by kernel_rfl
/-- What the tied variable gives a walk: its one cell. -/
theorem handle_of_laid {W : World} (h : laidMetH Tryz.prog Rows.idealCircleRow.laid W) : ErrType W := by
  have h' : laidMet Tryz.prog [] W ∧ handlesMet Tryz.prog Rows.idealCircleRow.laid W := h
  obtain ⟨name, u, ty, e1, e2, e3, e4, e5⟩ := h'.2 _ (List.mem_singleton.2 rfl)
  have en : name = [101, 114, 114, 111, 114] := (Option.some.inj e1).symm
  subst en
  obtain rfl := Option.some.inj (rt.symm.trans e2)
  have hm : ty ∈ (List.range 238).filter fun t => Tryz.prog.rowNamed t [101, 114, 114, 111, 114] := List.mem_filter.2 ⟨List.mem_range.2 (by rw [← typesSize]; exact e3), e4⟩
  rw [oneRow] at hm
  obtain rfl := List.mem_singleton.1 hm
  have hh : typeHandle Tryz.prog 65 = .pointer (some ⟨1, 65, none⟩) := by kernel_rfl
  rw [hh] at e5
  unfold ErrType
  simpa using World.var?_cell et e5 0

/-! ### STEP 1: the walk -/
set_option maxRecDepth 100000 in
set_option maxHeartbeats 2000000 in
theorem walk (a0 : Option Addr) (len0 cap0 : Nat) (t0 : List Int) (a1 : Option Addr) (len1 cap1 : Nat) (t1 : List Ac10) (w : World) (hE : ErrType w) (w0 : InRow 1 encU Go.Proofs.YtgljbbjdnmfphaaGreatDoor.u64 0 w a0 len0 t0) (c0 : len0 ≤ cap0) (w1 : InRow 4 Ac10.cells Ac10.ok ac100 w a1 len1 t1) (c1 : len1 ≤ cap1) :
    Calls Tryz.prog 6 #[.slice a0 len0 cap0, .slice a1 len1 cap1] w fun e w' => e = .returned (.bool true) ∧ Below w.heap.size w w' := by
  have HMd : Hid _ := made_r a0 len0 cap0 t0 a1 len1 cap1 t1 30 w w0 c0 w1 hE (by omega)
  clear w0 w1 c0 c1 hE
  go_enter Tryz.func6, Tryz.ntmps6
  go_wp2_with fail
  refine Calls.mono HMd.out ?_
  clear HMd
  rintro e w3 h3
  rcases h3 with ⟨x0, x1, x2, x3, rfl, hsl, b3⟩ | ⟨r, gp, gk, R, x0, x1, x2, x3, rfl, hsl, hrn, _⟩
  · obtain ⟨⟨p0, p1, p2, rfl⟩, ⟨p3, p4, p5, rfl⟩, ⟨p6, p7, p8, rfl⟩, ⟨p9, p10, p11, rfl⟩⟩ := hsl
    obtain ⟨W4, hW4⟩ : ∃ W4, W4 = w3.alloc (.cells #[.slice p0 p1 p2, .slice p3 p4 p5, .slice p6 p7 p8, .slice p9 p10 p11] 33) := ⟨_, rfl⟩
    have B4 : Hid (Below w.heap.size w W4) := by rw [hW4]; exact b3.trans ((below_one _ _).mono b3.size)
    clear b3
    go_upto_region 2 with fail
    rw [← hW4]
    clear hW4
    go_wp2_with fail
    refine (awake11_any _).mono ?_
    rintro e w5 ⟨rfl, b5⟩
    go_wp2
    go_ret
    exact ⟨rfl, B4.out.trans (b5.mono B4.out.size)⟩
  · obtain ⟨⟨p0, p1, p2, rfl⟩, ⟨p3, p4, p5, rfl⟩, ⟨p6, p7, p8, rfl⟩, ⟨p9, p10, p11, rfl⟩⟩ := hsl
    obtain ⟨W4, hW4⟩ : ∃ W4, W4 = w3.alloc (.cells #[.slice p0 p1 p2, .slice p3 p4 p5, .slice p6 p7 p8, .slice p9 p10 p11] 33) := ⟨_, rfl⟩
    have H4 : Hid (Rn w W4 r gp gk R) := by rw [hW4]; exact hrn.below (below_one _ _)
    clear hrn
    go_upto_region 2 with fail
    rw [← hW4]
    clear hW4
    go_wp2_with fail
    refine (of_r r gp gk R _ H4.out.ring H4.out.inv).mono ?_
    rintro e w5 ⟨C, g, b, c, d, rfl, hC, hm, hc1, hc2, hp, hd, b5⟩
    have hll : R.live.length ≤ 32 := liveTo_len R 32
    have h4 := live_four H4.out.inv
    have hCl := hC.len
    obtain ⟨i0, hi0, hz⟩ := Cir.at_ hC (H4.out.inv.base 0 (by omega) (by omega))
    obtain ⟨n, hn⟩ : ∃ n, n = R.live.length := ⟨_, rfl⟩
    rw [← hn] at hll h4 hCl hm hc1 hp hd ⊢
    rw [hCl] at hi0
    obtain ⟨W6, hW6⟩ : ∃ W6, W6 = w5.alloc (.cells #[.slice (some ⟨g, 0, none⟩) n c, .slice b n d] 39) := ⟨_, rfl⟩
    have B6 : Below w5.heap.size w5 W6 := by rw [hW6]; exact below_one _ _
    have HC : Hid (Cir R C ∧ C.length = n ∧ InIn W6 (some ⟨g, 0, none⟩) n C ∧ (n ≤ c ∧ c ≤ 9223372036854775807) ∧ IdIn W6 b n (C.map R.idOf) ∧ Rn w W6 r gp gk R ∧ C.getD i0 0 = 0 ∧ n = R.live.length) := ⟨hC, hCl, hm.below (Nat.le_refl _) B6, ⟨hc1, hc2⟩, hp.below (Nat.le_refl _) B6, (H4.out.below b5).below B6, hz, hn⟩
    have hbx : W6.heap[w5.heap.size]? = some (.cells #[.slice (some ⟨g, 0, none⟩) n c, .slice b n d] 39 (0, 0)) := by rw [hW6]; exact heap_alloc_new w5 _
    have HX : Hid (W6.cell? ⟨w5.heap.size, 0, none⟩ = some (.slice (some ⟨g, 0, none⟩) n c) ∧ W6.cell? ⟨w5.heap.size, 1, none⟩ = some (.slice b n d)) := ⟨by simp [World.cell?, hbx], by simp [World.cell?, hbx]⟩
    clear hC hm hc1 hc2 hp hd b5 hbx B6 hCl hn hz H4
    go_upto_region 5 with fail
    rw [← hW6]
    clear hW6
    generalize w5.heap.size = q at HX ⊢
    obtain ⟨f, hf⟩ : ∃ f : Nat → Int, f = fun j => C.getD j 0 := ⟨_, rfl⟩
    have HF : Hid (f = fun j => C.getD j 0) := hf
    clear hf
    go_wp2
    go_loopg [9, 10, 11] n (fun kx v u s wr => ∃ i : Nat, v = .int .i64 (f ((i0 + i) % n)) ∧ u = .int .i64 (f ((i0 + n - i) % n)) ∧ s = .int .i64 i ∧ i ≤ n ∧ kx = n - i ∧ Hid (Below W6.heap.size W6 wr))
    case atStart =>
      have e1 : f ((i0 + 0) % n) = 0 := by rw [HF.out, Nat.add_zero, Nat.mod_eq_of_lt hi0]; exact HC.out.2.2.2.2.2.2.1
      have e2 : f ((i0 + n - 0) % n) = 0 := by rw [HF.out, Nat.sub_zero, Nat.add_mod_right, Nat.mod_eq_of_lt hi0]; exact HC.out.2.2.2.2.2.2.1
      exact ⟨0, by rw [e1], by rw [e2], rfl, Nat.zero_le _, rfl, (Below.refl _ _ : Below W6.heap.size W6 W6)⟩
    case round =>
      obtain ⟨i, rfl, rfl, rfl, hi, rfl, HB⟩ := hrel
      have c0 := cell_grown HX.out.1 HB.out
      have c1 := cell_grown HX.out.2 HB.out
      have cl := cell_block c0
      by_cases hlt : i < n
      · have hltI : (i : Int) < (n : Int) := by omega
        obtain ⟨y1, hy1⟩ : ∃ y, y = f ((i0 + i) % n) := ⟨_, rfl⟩
        obtain ⟨y2, hy2⟩ : ∃ y, y = f ((i0 + n - i) % n) := ⟨_, rfl⟩
        rw [← hy1, ← hy2]
        have m1 : (i0 + i) % n < n := Nat.mod_lt _ (by omega)
        have m2 : (i0 + n - i) % n < n := Nat.mod_lt _ (by omega)
        have hE := HC.out
        have hmin : ∀ k, k < n → ∀ j, j < k → C.getD j 0 ≠ C.getD k 0 := fun k hk j hj e => by have := hE.1.inj (by omega) (by omega) e; omega
        have HP : Hid (∀ (k : Nat) (y : Int), k < n → y = f k → ∀ W, Below W6.heap.size W6 W → Calls Tryz.prog 17 #[.agg #[.slice (some ⟨g, 0, none⟩) n c, .slice b n d], .int .i64 y] W fun e w' => ∃ a2 c2, e = .returned (.tuple #[.agg #[.int .u64 (idPe R C k).id, .int .i64 (idPe R C k).pred, .slice a2 3 c2], .bool true]) ∧ InIn w' a2 3 (idPe R C k).succ ∧ 3 ≤ c2 ∧ Below W.heap.size W w') := fun k y hk hy W hW => by
          rw [hy, HF.out]
          exact cpeer_r R C g c d n k b W (hE.2.2.1.below (Nat.le_refl _) hW) hE.2.2.2.1.1 hE.2.2.2.1.2 (hE.2.2.2.2.1.below (Nat.le_refl _) hW) h4 hll hk (hmin k hk)
        have HN1 : Hid ((idPe R C ((i0 + i) % n)).succ.getD 0 0 = f ((i0 + (i + 1)) % n) ∧ (idPe R C ((i0 + n - i) % n)).pred = f ((i0 + n - (i + 1)) % n) ∧ (0 < i → y1 ≠ 0 ∧ y2 ≠ 0)) := by
          refine ⟨?_, ?_, fun h0 => ?_⟩
          · rw [idPe_succ (by omega) (by omega), HF.out]
            show C.getD (((i0 + i) % n + 1) % C.length) 0 = _
            rw [hE.2.1, circ_fwd (by omega)]
          · show C.getD (((i0 + n - i) % n + C.length - 1) % C.length) 0 = _
            rw [hE.2.1, circ_bck hlt, HF.out]
          · have hne := circ_ne hi0 h0 hlt
            rw [hy1, hy2, HF.out]
            refine ⟨fun e => hne.1 (hE.1.inj (by omega) (by omega) (e.trans hE.2.2.2.2.2.2.1.symm)), fun e => hne.2 (hE.1.inj (by omega) (by omega) (e.trans hE.2.2.2.2.2.2.1.symm))⟩
        have HP1 : Hid _ := HP.out _ y1 m1 hy1
        have HP2 : Hid _ := HP.out _ y2 m2 hy2
        have hsl : (idPe R C ((i0 + i) % n)).succ.length = 3 := by rw [idPe_succ (by omega) (by omega)]; rfl
        clear hE hmin HP m1 m2 hy1 hy2 hsl
        obtain ⟨z1, hz1⟩ : ∃ z, z = f ((i0 + (i + 1)) % n) := ⟨_, rfl⟩
        obtain ⟨z2, hz2⟩ : ∃ z, z = f ((i0 + n - (i + 1)) % n) := ⟨_, rfl⟩
        rw [← hz1, ← hz2] at HN1
        have HZ : Hid (z1 = f ((i0 + (i + 1)) % n) ∧ z2 = f ((i0 + n - (i + 1)) % n)) := ⟨hz1, hz2⟩
        clear hz1 hz2
        generalize idPe R C ((i0 + i) % n) = pe1 at HN1 HP1
        generalize idPe R C ((i0 + n - i) % n) = pe2 at HN1 HP2
        go_wp2_with fail
        refine (clen_r _ _ n c _).mono ?_
        rintro e w7 ⟨rfl, b7⟩
        have H7 : Hid (Below W6.heap.size W6 w7) := HB.out.trans (b7.mono HB.out.size)
        clear b7 c0 c1 cl HB
        have c0 := cell_grown HX.out.1 H7.out
        have c1 := cell_grown HX.out.2 H7.out
        have cl := cell_block c0
        go_wp2_with fail
        refine Calls.mono (HP1.out _ H7.out) ?_
        rintro e w8 ⟨a2, k2, rfl, hs1, hk2, b8⟩
        obtain ⟨W8, hW8⟩ : ∃ W8, W8 = w8.alloc (.cells #[.int .u64 pe1.id, .int .i64 pe1.pred, .slice a2 3 k2] 48) := ⟨_, rfl⟩
        have B8 : Below w8.heap.size w8 W8 := by rw [hW8]; exact below_one _ _
        have H8 : Hid (Below W6.heap.size W6 W8 ∧ InIn W8 a2 3 pe1.succ ∧ W8.heap[w8.heap.size]? = some (.cells #[.int .u64 pe1.id, .int .i64 pe1.pred, .slice a2 3 k2] 48 (0, 0))) := ⟨(H7.out.trans (b8.mono H7.out.size)).trans (B8.mono (Nat.le_trans H7.out.size b8.size)), hs1.below (Nat.le_refl _) B8, by rw [hW8]; exact heap_alloc_new w8 _⟩
        clear hs1 b8 B8 c0 c1 cl
        go_upto_region 10 with fail
        rw [← hW8]
        clear hW8
        generalize w8.heap.size = q8 at H8 ⊢
        have c0 := cell_grown HX.out.1 H8.out.1
        have c1 := cell_grown HX.out.2 H8.out.1
        have cl := cell_block c0
        go_wp2_with fail
        refine Calls.mono (HP2.out _ H8.out.1) ?_
        rintro e w9 ⟨a3, k3, rfl, _, _, b9⟩
        obtain ⟨W9, hW9⟩ : ∃ W9, W9 = w9.alloc (.cells #[.int .u64 pe2.id, .int .i64 pe2.pred, .slice a3 3 k3] 48) := ⟨_, rfl⟩
        have B9 : Below W8.heap.size W8 W9 := by rw [hW9]; exact b9.trans ((below_one _ _).mono b9.size)
        have H9 : Hid (Below W6.heap.size W6 W9 ∧ InIn W9 a2 3 pe1.succ ∧ W9.heap[q8]? = some (.cells #[.int .u64 pe1.id, .int .i64 pe1.pred, .slice a2 3 k2] 48 (0, 0)) ∧ W9.heap[w9.heap.size]? = some (.cells #[.int .u64 pe2.id, .int .i64 pe2.pred, .slice a3 3 k3] 48 (0, 0))) := ⟨H8.out.1.trans (B9.mono H8.out.1.size), H8.out.2.1.below (Nat.le_refl _) B9, (B9.block _ (lt_of_block H8.out.2.2)).trans H8.out.2.2, by rw [hW9]; exact heap_alloc_new w9 _⟩
        clear b9 B9 c0 c1 cl H8
        go_upto_region 11 with fail
        rw [← hW9]
        clear hW9
        generalize w9.heap.size = q9 at H9 ⊢
        obtain ⟨u0, u1, u2, ul⟩ := c3_block H9.out.2.2.1
        obtain ⟨v0, v1, v2, vl⟩ := c3_block H9.out.2.2.2
        obtain ⟨ga, oa, hga, hgl, _, hcell⟩ := H9.out.2.1.one (v := Value.int .i64) (fun _ => rfl) (i := 0) (by omega)
        subst hga
        rw [HN1.out.1] at hcell
        rw [HN1.out.2.1] at v1
        simp only [Nat.add_zero] at hcell
        by_cases h0 : 0 < i
        · have h0I : (0 : Int) < (i : Int) := by omega
          obtain ⟨n1, n2⟩ := HN1.out.2.2 h0
          have e1 : (y1 == 0) = false := by simpa using n1
          have e2 : (y2 == 0) = false := by simpa using n2
          clear n1 n2
          go_wp2
          go_roundg (n - (i + 1))
          case measure => omega
          case rel => exact ⟨i + 1, by rw [HZ.out.1], by rw [HZ.out.2], by go_num, by omega, rfl, H9.out.1⟩
        · obtain rfl : i = 0 := by omega
          go_wp2
          go_roundg (n - (0 + 1))
          case measure => omega
          case rel => exact ⟨0 + 1, by rw [HZ.out.1], by rw [HZ.out.2], by go_num, by omega, rfl, H9.out.1⟩
      · have hin : i = n := by omega
        have e1 : f ((i0 + i) % n) = 0 := by rw [hin, HF.out, Nat.add_mod_right, Nat.mod_eq_of_lt hi0]; exact HC.out.2.2.2.2.2.2.1
        have e2 : f ((i0 + n - i) % n) = 0 := by rw [hin, HF.out, Nat.add_sub_cancel, Nat.mod_eq_of_lt hi0]; exact HC.out.2.2.2.2.2.2.1
        rw [e1, e2]
        have hltI : ¬ (i : Int) < (n : Int) := by omega
        clear e1 e2 hin
        go_wp2_with fail
        refine (clen_r _ _ n c _).mono ?_
        rintro e w7 ⟨rfl, b7⟩
        have H7 : Hid (Below W6.heap.size W6 w7) := HB.out.trans (b7.mono HB.out.size)
        clear b7 c0 c1 cl HB
        go_wp2_with fail
        refine (awake11_any _).mono ?_
        rintro e w8 ⟨rfl, b8⟩
        have H8 : Hid (Below W6.heap.size W6 w8) := H7.out.trans (b8.mono H7.out.size)
        clear b8
        have c0 := cell_grown HX.out.1 H8.out
        have c1 := cell_grown HX.out.2 H8.out
        have cl := cell_block c0
        go_wp2_with fail
        refine (clen_r _ _ n c _).mono ?_
        rintro e w9 ⟨rfl, b9⟩
        have H9 : Hid (Rn w w9 r gp gk R) := (HC.out.2.2.2.2.2.1.below H8.out).below b9
        clear b9
        go_wp2_with fail
        refine (live_r r gp gk R _ H9.out.ring).mono ?_
        rintro e w10 ⟨la, lc, rfl, _, _, b10⟩
        rw [← HC.out.2.2.2.2.2.2.2]
        go_wp2
        go_ret
        exact ⟨by simp, H9.out.bel.trans (b10.mono H9.out.bel.size)⟩

/-! ### The row's step -/
set_option maxRecDepth 100000 in
theorem lifted (os : Os) (started : os.Started) (H : Type) (enc : TypeId × Value → H) :
    ReturnsInHanded {} Tryz.checked os 6 .any (fun w args => (Rows.idealCircleSpec.pre enc Tryz.prog Tryz.f6 [] false w args ∧ laidMetH Tryz.prog Rows.idealCircleRow.laid w) ∧ sizedMet enc Tryz.prog Tryz.f6 (OpenSpec.ofChange Rows.idealCircleSpec) false w args) (Rows.idealCircleSpec.post enc Tryz.prog Tryz.f6 false true false false) := by
  refine returnsInHanded_of_change_and (C := Tryz.checked) (X := fun w _ => laidMetH Tryz.prog Rows.idealCircleRow.laid w) (fun _ _ _ hh h => h.of_heap hh) own started (by kernel_rfl) Tryz.func6
    (ChangeSpec.witness_at (enc := enc) (C := Tryz.checked) (os := os) (X := fun w _ => laidMetH Tryz.prog Rows.idealCircleRow.laid w) false ({ World.holding Tryz.prog os ⟨#[], #[], []⟩ with heap := (World.holding Tryz.prog os ⟨#[], #[], []⟩).heap.modify 0 fun | .cells _ t frozen => .cells #[.iface 177 (.agg #[.pointer (some ⟨1, 65, none⟩)])] t frozen | o => o }) #[.slice none 0 0, .slice none 0 0] 8 rfl (by kernel_rfl) (by kernel_rfl) (by kernel_rfl) (by kernel_rfl) (by kernel_rfl) (laidMetH_of_parts (laidMet_nil _ _) (by kernel_rfl))) ?_
  intro W base args ds gs before hval0 hW _ _ hL _
  have hval : ∀ (j : Nat) t v, Tryz.f6.params[j]? = some t → args[j]? = some v → Value.okWide Tryz.prog W .any base t v := hval0
  have hW' := hW
  obtain ⟨p, q, hA0, hV, rfl, hfz, hnd⟩ := hW
  have hA : DataW.TrodAll enc Tryz.prog W 0 (fun _ => true) true Tryz.f6.params.toList args.toList ds p := hA0
  rw [Tryz.params6] at hA hval
  obtain ⟨v0, vs0, d0, ds0, p0, q0, hargs, rfl, rfl, h0, r0⟩ := trodAll_cons hA
  obtain ⟨v1, vs1, d1, ds1, p1, q1, rfl, rfl, rfl, h1, r1⟩ := trodAll_cons r0
  obtain ⟨rfl, rfl, rfl⟩ := trodAll_nil r1
  obtain rfl : args = #[v0, v1] := by cases args; simp_all
  obtain ⟨rfl, rfl⟩ := trodVars_none hV
  obtain ⟨a0, len0, cap0, rfl⟩ := okWide_slice Tryz.underlying22 (hval 0 22 v0 rfl rfl)
  have k0 := h0
  have lt0 : ∀ x ∈ p0, x.block < W.heap.size := by obtain ⟨m, hm⟩ := k0; exact DataW.trod_lt m _ _ _ hm
  have c0 : len0 ≤ cap0 := by
    obtain ⟨fuel, hf⟩ := h0
    exact incap_of Tryz.underlying22 hf
  obtain ⟨t0, w0⟩ : ∃ ts, InRow 1 encU Go.Proofs.YtgljbbjdnmfphaaGreatDoor.u64 0 W a0 len0 ts := by
    obtain ⟨fuel, hf⟩ := h0
    exact inrow_of 1 encU Go.Proofs.YtgljbbjdnmfphaaGreatDoor.u64 0 22 25 Tryz.underlying22 cellsU1 (by omega) lenU (fun n cs x => uid_of n cs x) hf
  obtain ⟨a1, len1, cap1, rfl⟩ := okWide_slice Tryz.underlying23 (hval 1 23 v1 rfl rfl)
  have k1 := h1
  have lt1 : ∀ x ∈ p1, x.block < W.heap.size := by obtain ⟨m, hm⟩ := k1; exact DataW.trod_lt m _ _ _ hm
  have c1 : len1 ≤ cap1 := by
    obtain ⟨fuel, hf⟩ := h1
    exact incap_of Tryz.underlying23 hf
  obtain ⟨t1, w1⟩ : ∃ ts, InRow 4 Ac10.cells Ac10.ok ac100 W a1 len1 ts := by
    obtain ⟨fuel, hf⟩ := h1
    exact inrow_of 4 Ac10.cells Ac10.ok ac100 23 76 Tryz.underlying23 cellsAc10 (by omega) lenAc10 (fun n cs x => ac10_of n cs x) hf
  clear hA0 hval0
  have hE := handle_of_laid hL
  refine (walk a0 len0 cap0 t0 a1 len1 cap1 t1 W hE w0 c0 w1 c1).mono fun e W' ⟨he, bel⟩ => ?_
  subst he
  exact ⟨_, rfl, _, _, _, [], _, [], hW', trodAll_mk1 (shut_bool Tryz.underlying4 _), (trodAll_cons_mk (Below.trod laidOut (by kernel_rfl) (of_decide_eq_true (by kernel_rfl)) k0 bel lt0) (trodAll_cons_mk (Below.trod laidOut (by kernel_rfl) (of_decide_eq_true (by kernel_rfl)) k1 bel lt1) trodAll_mk0)), rfl, bel.frame _, fun h => by cases h⟩

theorem over : Rows.idealCircleRow.holds Tryz.pinned (OpenSpec.ofChange Rows.idealCircleSpec) :=
  OpenClaim.holds_of_wide 6 Tryz.f6 rfl rfl rfl rfl rfl rfl rfl ⟨rfl, rfl, rfl, rfl, rfl⟩ rfl rfl rfl rfl rfl (by kernel_rfl) Tryz.func6 (by kernel_rfl)
    (of_decide_eq_true (by kernel_rfl)) (by unfold Func.isWrapper; first | (rw [if_pos (by decide +kernel)]; kernel_rfl) | (rw [if_neg (by decide +kernel)]; exact ⟨rfl, rfl⟩))
    (fun os started H enc _ => lifted os started H enc)

theorem card : Rows.IdealCircleCardSaid :=
  Claim7.holds_tied_plain_at .later [] [.handle] true (true, "ebfe1cc5ed85a081e89d6d1858cf424938ec32e36ea148b7a3cf8eb7e3215188") true
    over (fun _ h => by cases h) (by kernel_rfl) (fun _ h => by cases h) idealCircle_row_tie rfl ⟨rfl, rfl⟩ (by kernel_rfl) rfl
    (fun f fn hf hfn => by
      obtain rfl : f = 6 := Option.some.inj ((show Tryz.prog.funcNamed "wigwag/wigwaglaw11.IdealCircle" = some 6 by kernel_rfl).symm.trans hf) |>.symm
      obtain rfl : fn = Tryz.f6 := (Option.some.inj (Tryz.func6.symm.trans hfn)).symm
      exact ⟨by kernel_rfl, fun j t ht => by
        rw [Tryz.params6] at ht
        have hall : ∀ t ∈ ([22, 23] : List TypeId), Tryz.prog.wantsStandIn t = false := by
          intro t ht
          simp only [List.mem_cons, List.not_mem_nil, or_false] at ht
          rcases ht with rfl | rfl <;> kernel_rfl
        exact hall t (by simpa using List.mem_of_getElem? (l := ([22, 23] : List TypeId)) (i := j) (by simpa using ht))⟩)
    (by kernel_rfl)

end Go.Proofs.YtgljbbjdnmfphaaGreatDoor.idealCircle

namespace Go.Proofs.YtgljbbjdnmfphaaGreatDoor
/-- Proved: for every list of places and every list of calls: behind any 30 calls one goes from member 0, Succ by Succ, round all of the ideal circle, and Pred by Pred back; errors.errorType being laid as the program's text lays it (the card's tie, over the pruned copy). -/
theorem idealCircle_holds : Rows.IdealCircleCardSaid := idealCircle.card
#print axioms idealCircle_holds
end Go.Proofs.YtgljbbjdnmfphaaGreatDoor
