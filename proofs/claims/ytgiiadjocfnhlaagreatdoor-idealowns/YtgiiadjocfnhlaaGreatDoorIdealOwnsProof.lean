/- Proved: for every list of places, every list of calls and every place: behind any 30 calls each place is one member's, the fingers of all members are owners, and Pred's place, and all up to it, are Pred's; errors.errorType being laid as the program's text lays it (the card's tie, over the pruned copy).
  The frame is the guide's own shell (proof-skeleton.mjs) at this function; the walk and all ahead of it are mine. -/
import Derived.Test.YtgiiadjocfnhlaaGreatDoorRows
import Derived.Test.YtgiiadjocfnhlaaGreatDoorJoinPrInts
import Derived.Test.YtgiiadjocfnhlaaGreatDoorJoinPeSame
import Derived.Test.YtgiiadjocfnhlaaGreatDoorRfM
import Derived.Test.YtgiiadjocfnhlaaGreatDoorInCap
import Derived.Test.YtgiiadjocfnhlaaGreatDoorIdCirc
import Derived.Test.YtgiiadjocfnhlaaGreatDoorIdOwn
import Derived.Test.YtgiiadjocfnhlaaGreatDoorChPlay
import Derived.Deep.CutBlock
import Derived.Deep.DeepCutAuto
import Derived.Deep.LoopGhost
import Derived.WalkKit
import Derived.WalkLawsBesides
import Derived.ProofKit
import Derived.OpenShut
import Derived.ChangeSame
import Derived.ChangeVars
import Derived.JoinedOf
import Derived.RowKit
import Derived.RowKitTokens
import Derived.LaidLaws
import Derived.LaidHandle
import Derived.Stop.Joined
import Derived.SevenTiedAt
import Derived.Test.YtgiiadjocfnhlaaGreatDoorTie
import Derived.Test.YtgiiadjocfnhlaaGreatDoorCards
import Derived.ShutString
import Derived.ChangeOld
import Derived.Below
namespace Go.Proofs.YtgiiadjocfnhlaaGreatDoor.idealOwns
open Go.ChangeShapes Go.WideShapes Go.ChangeAt Go.RowKit
open Go.ChangeMaps (open_string shut_string)
set_option linter.unusedVariables false

theorem own : ownKnob Tryz.prog.godebug = none := by kernel_rfl
theorem laidOut : laidOutB Tryz.prog = true := by kernel_rfl


theorem et : Tryz.prog.globalNamed "errors.errorType" = some 0 := by kernel_rfl
theorem rt : (Tryz.prog.cutTypes.find? (·.1 == "internal/reflectlite.rtype")).map (·.2) = some 148 := by kernel_rfl
theorem oneRow : ((List.range 222).filter fun t => Tryz.prog.rowNamed t [101, 114, 114, 111, 114]) = [26] := by kernel_rfl
theorem typesSize : Tryz.prog.types.size = 222 := by kernel_rfl
/-- What the tied variable gives a walk: its one cell. -/
theorem handle_of_laid {W : World} (h : laidMetH Tryz.prog Rows.idealOwnsRow.laid W) : ErrType W := by
  have h' : laidMet Tryz.prog [] W ∧ handlesMet Tryz.prog Rows.idealOwnsRow.laid W := h
  obtain ⟨name, u, ty, e1, e2, e3, e4, e5⟩ := h'.2 _ (List.mem_singleton.2 rfl)
  have en : name = [101, 114, 114, 111, 114] := (Option.some.inj e1).symm
  subst en
  obtain rfl := Option.some.inj (rt.symm.trans e2)
  have hm : ty ∈ (List.range 222).filter fun t => Tryz.prog.rowNamed t [101, 114, 114, 111, 114] := List.mem_filter.2 ⟨List.mem_range.2 (by rw [← typesSize]; exact e3), e4⟩
  rw [oneRow] at hm
  obtain rfl := List.mem_singleton.1 hm
  have hh : typeHandle Tryz.prog 26 = .pointer (some ⟨1, 26, none⟩) := by kernel_rfl
  rw [hh] at e5
  unfold ErrType
  simpa using World.var?_cell et e5 0

/-! ### STEP 1: the walk -/
set_option maxRecDepth 100000 in
set_option maxHeartbeats 2000000 in
theorem walk (a0 : Option Addr) (len0 cap0 : Nat) (t0 : List Int) (a1 : Option Addr) (len1 cap1 : Nat) (t1 : List Ac10) (a2 : Int) (w : World) (hE : ErrType w) (w0 : InRow 1 encU Go.Proofs.YtgiiadjocfnhlaaGreatDoor.u64 0 w a0 len0 t0) (c0 : len0 ≤ cap0) (w1 : InRow 4 Ac10.cells Ac10.ok ac100 w a1 len1 t1) (c1 : len1 ≤ cap1) (w2 : (Lit.int .u64 a2).wf = true) :
    Calls Tryz.prog 5 #[.slice a0 len0 cap0, .slice a1 len1 cap1, .int .u64 a2] w fun e w' => e = .returned (.bool true) ∧ Below w.heap.size w w' := by
  have HMd : Hid _ := made_r a0 len0 cap0 t0 a1 len1 cap1 t1 30 w w0 c0 w1 hE (by omega)
  have HX2 : Hid (Plc a2) := by show Plc a2; obtain ⟨z0, z1⟩ := bounds_u64 w2; unfold Plc; omega
  clear w0 w1 c0 c1 hE w2
  go_enter Tryz.func5, Tryz.ntmps5
  go_wp2_with fail
  refine Calls.mono HMd.out ?_
  clear HMd
  rintro e w3 h3
  rcases h3 with ⟨x0, x1, x2, x3, rfl, hsl, b3⟩ | ⟨r, gp, gk, R, x0, x1, x2, x3, rfl, hsl, hrn, _⟩
  · obtain ⟨⟨p0, p1, p2, rfl⟩, ⟨p3, p4, p5, rfl⟩, ⟨p6, p7, p8, rfl⟩, ⟨p9, p10, p11, rfl⟩⟩ := hsl
    obtain ⟨W4, hW4⟩ : ∃ W4, W4 = w3.alloc (.cells #[.slice p0 p1 p2, .slice p3 p4 p5, .slice p6 p7 p8, .slice p9 p10 p11] 35) := ⟨_, rfl⟩
    have B4 : Hid (Below w.heap.size w W4) := by rw [hW4]; exact b3.trans ((below_one _ _).mono b3.size)
    clear b3
    go_upto_region 2 with fail
    rw [← hW4]
    clear hW4
    go_wp2_with fail
    refine (awake11_any _).mono ?_
    rintro e w5 ⟨rfl, b5⟩
    go_wp2
    go_ret
    exact ⟨rfl, B4.out.trans (b5.mono B4.out.size)⟩
  · obtain ⟨⟨p0, p1, p2, rfl⟩, ⟨p3, p4, p5, rfl⟩, ⟨p6, p7, p8, rfl⟩, ⟨p9, p10, p11, rfl⟩⟩ := hsl
    obtain ⟨W4, hW4⟩ : ∃ W4, W4 = w3.alloc (.cells #[.slice p0 p1 p2, .slice p3 p4 p5, .slice p6 p7 p8, .slice p9 p10 p11] 35) := ⟨_, rfl⟩
    have H4 : Hid (Rn w W4 r gp gk R) := by rw [hW4]; exact hrn.below (below_one _ _)
    clear hrn
    go_upto_region 2 with fail
    rw [← hW4]
    clear hW4
    go_wp2_with fail
    refine (of_r r gp gk R _ H4.out.ring H4.out.inv).mono ?_
    rintro e w5 ⟨C, g, b, c, d, rfl, hC, hm, hc1, hc2, hp, hd, b5⟩
    have hll : R.live.length ≤ 32 := liveTo_len R 32
    have h4 := live_four H4.out.inv
    have hCl := hC.len
    obtain ⟨n, hn⟩ : ∃ n, n = R.live.length := ⟨_, rfl⟩
    rw [← hn] at hll h4 hCl hm hc1 hp hd ⊢
    obtain ⟨W6, hW6⟩ : ∃ W6, W6 = w5.alloc (.cells #[.slice (some ⟨g, 0, none⟩) n c, .slice b n d] 54) := ⟨_, rfl⟩
    have B6 : Below w5.heap.size w5 W6 := by rw [hW6]; exact below_one _ _
    have HC : Hid (Cir R C ∧ C.length = n ∧ InIn W6 (some ⟨g, 0, none⟩) n C ∧ (n ≤ c ∧ c ≤ 9223372036854775807) ∧ IdIn W6 b n (C.map R.idOf) ∧ Rn w W6 r gp gk R ∧ n = R.live.length) := ⟨hC, hCl, hm.below (Nat.le_refl _) B6, ⟨hc1, hc2⟩, hp.below (Nat.le_refl _) B6, (H4.out.below b5).below B6, hn⟩
    have hbx : W6.heap[w5.heap.size]? = some (.cells #[.slice (some ⟨g, 0, none⟩) n c, .slice b n d] 54 (0, 0)) := by rw [hW6]; exact heap_alloc_new w5 _
    have HX : Hid (W6.cell? ⟨w5.heap.size, 0, none⟩ = some (.slice (some ⟨g, 0, none⟩) n c) ∧ W6.cell? ⟨w5.heap.size, 1, none⟩ = some (.slice b n d)) := ⟨by simp [World.cell?, hbx], by simp [World.cell?, hbx]⟩
    clear hC hm hc1 hc2 hp hd b5 hbx B6 hCl hn H4
    go_upto_region 5 with fail
    rw [← hW6]
    clear hW6
    generalize w5.heap.size = q at HX ⊢
    obtain ⟨f, hf⟩ : ∃ f : Nat → Int, f = fun j => C.getD j 0 := ⟨_, rfl⟩
    obtain ⟨P, hP⟩ : ∃ P, P = C.map R.idOf := ⟨_, rfl⟩
    have hE := HC.out
    have HPp : Hid (P.Pairwise (· < ·) ∧ P.length = n ∧ (∀ k, k < n → P.getD k 0 = R.idOf (f k)) ∧ ∀ k : Nat, Plc (P.getD k 0)) := by
      have hlen : P.length = n := by rw [hP, List.length_map]; exact hE.2.1
      have hg : ∀ k, k < n → P.getD k 0 = R.idOf (f k) := fun k hk => by rw [hP, hf]; simp [List.getD, hE.2.1, hk]
      refine ⟨by rw [hP]; exact List.pairwise_map.2 hE.1.rise, hlen, hg, fun k => ?_⟩
      by_cases hk : k < n
      · rw [hg k hk]; exact hE.2.2.2.2.2.1.inv.u _
      · have e : P.getD k 0 = 0 := by simp [List.getD, List.getElem?_eq_none (by omega : P.length ≤ k)]
        rw [e]; unfold Plc; omega
    have HOw : Hid (∀ (x : Int) (k : Nat), ownerN P x = k → k < n → ∀ W, Below W6.heap.size W6 W → Calls Tryz.prog 20 #[.agg #[.slice (some ⟨g, 0, none⟩) n c, .slice b n d], .int .u64 x] W fun e w' => e = .returned (.int .i64 (f k)) ∧ Below W.heap.size W w') := fun x k hx hk W hW => by
      rw [hf]
      exact cowner_r R C g c d n k b x W (hE.2.2.1.below (Nat.le_refl _) hW) (hE.2.2.2.2.1.below (Nat.le_refl _) hW) h4 (by rw [← hP]; exact hx) hk
    have hmin : ∀ k, k < n → ∀ j, j < k → C.getD j 0 ≠ C.getD k 0 := fun k hk j hj e => by have := hE.1.inj (by omega) (by omega) e; omega
    have HPe : Hid (∀ (k : Nat) (y : Int), k < n → y = f k → ∀ W, Below W6.heap.size W6 W → Calls Tryz.prog 24 #[.agg #[.slice (some ⟨g, 0, none⟩) n c, .slice b n d], .int .i64 y] W fun e w' => ∃ a2 c2, e = .returned (.tuple #[.agg #[.int .u64 (P.getD k 0), .int .i64 (f ((k + n - 1) % n)), .slice a2 3 c2], .bool true]) ∧ InIn w' a2 3 (idPe R C k).succ ∧ (idPe R C k).succ.getD 0 0 = f ((k + 1) % n) ∧ 3 ≤ c2 ∧ Below W.heap.size W w') := fun k y hk hy W hW => by
      rw [hy, HPp.out.2.2.1 k hk, hf]
      refine (cpeer_r R C g c d n k b W (hE.2.2.1.below (Nat.le_refl _) hW) hE.2.2.2.1.1 hE.2.2.2.1.2 (hE.2.2.2.2.1.below (Nat.le_refl _) hW) h4 hll hk (hmin k hk)).mono ?_
      rintro e w' ⟨a2, c2, he, h1, h2, h3⟩
      refine ⟨a2, c2, ?_, h1, ?_, h2, h3⟩
      · rw [he]; simp only [idPe, hE.2.1]
      · rw [idPe_succ (by omega) (by omega)]
        show C.getD ((k + 1) % C.length) 0 = _
        rw [hE.2.1]
    have HFi : Hid (∀ (k : Nat) (y : Int), k < n → y = f k → ∀ W, Below W6.heap.size W6 W → Calls Tryz.prog 26 #[.agg #[.slice (some ⟨g, 0, none⟩) n c, .slice b n d], .int .i64 y, .int .i64 0] W fun e w' => e = .returned (.int .i64 (f ((k + 1) % n))) ∧ Below W.heap.size W w') := fun k y hk hy W hW => by
      have hon := owner_next HPp.out.1 HPp.out.2.2.2 (i := k) (by rw [HPp.out.2.1]; exact hk)
      rw [HPp.out.2.1, HPp.out.2.2.1 k hk] at hon
      rw [hy, hf]
      exact cfinger_r R C g c d n k 0 ((k + 1) % n) b W (hE.2.2.1.below (Nat.le_refl _) hW) (hE.2.2.2.2.1.below (Nat.le_refl _) hW) h4 hk (hmin k hk) (by omega) (by rw [← hP, start_in _ _ (by omega) (by omega)]; simpa [hf] using hon) (Nat.mod_lt _ (by omega))
    have HFl : Hid (∀ k, k < n → R.lives (f k) = true) := fun k hk => by rw [hf]; exact Cir.lv hE.1 (by rw [hE.2.1]; exact hk)
    have HFx : Hid (∀ y, R.lives y = true → ∃ k, k < n ∧ y = f k) := fun y hy => by
      obtain ⟨k, hk, e⟩ := Cir.at_ hE.1 hy
      exact ⟨k, by rw [← hE.2.1]; exact hk, by rw [hf]; exact e.symm⟩
    have HFj : Hid (∀ i j, i < n → j < n → f i = f j → i = j) := fun i j hi hj e => hE.1.inj (by rw [hE.2.1]; exact hi) (by rw [hE.2.1]; exact hj) (by rw [hf] at e; exact e)
    have HRn : Hid (Rn w W6 r gp gk R ∧ n = R.live.length) := ⟨hE.2.2.2.2.2.1, hE.2.2.2.2.2.2⟩
    obtain ⟨ko, hko, hkn⟩ := owner_rng P a2 (by rw [HPp.out.2.1]; omega)
    rw [HPp.out.2.1] at hkn
    have HKo : Hid (ownerN P a2 = ko) := hko
    clear hko hE hmin hf hP HC
    have c0 := HX.out.1
    have c1 := HX.out.2
    have cl := cell_block c0
    go_wp2_with fail
    refine Calls.mono (HOw.out a2 ko HKo.out hkn _ (Below.refl _ _)) ?_
    rintro e w7 ⟨rfl, b7⟩
    have H7 : Hid (Below W6.heap.size W6 w7) := b7
    clear b7 c0 c1 cl
    go_wp2_with fail
    refine (lives_r r gp gk R (f ko) _ (HRn.out.1.below H7.out).ring).mono ?_
    rintro e w8 ⟨rfl, b8⟩
    rw [HFl.out ko hkn]
    have H8 : Hid (Below W6.heap.size W6 w8) := H7.out.trans (b8.mono H7.out.size)
    clear b8 H7
    go_wp2_with fail
    refine (live_r r gp gk R _ (HRn.out.1.below H8.out).ring).mono ?_
    rintro e w9 ⟨la, lc, rfl, hla, _, b9⟩
    rw [← HRn.out.2] at hla ⊢
    have H9 : Hid (Below W6.heap.size W6 w9 ∧ InIn w9 la n R.live) := ⟨H8.out.trans (b9.mono H8.out.size), hla⟩
    clear b9 H8 hla
    go_wp2
    go_loopg [39] n (fun kx s wr => ∃ i : Nat, s = .int .i64 i ∧ i ≤ n ∧ kx = n - i ∧ Hid (Below w9.heap.size w9 wr))
    case atStart => exact ⟨0, rfl, Nat.zero_le _, rfl, (Below.refl _ _ : Below w9.heap.size w9 w9)⟩
    case round =>
      obtain ⟨i, rfl, hi, rfl, HB⟩ := hrel
      have BB : Hid (Below W6.heap.size W6 wr) := H9.out.1.trans (HB.out.mono H9.out.1.size)
      by_cases hlt : i < n
      · have hiI : (0 : Int) ≤ (i : Int) ∧ (i : Int) < (n : Int) := by omega
        obtain ⟨lb, lo, hlb, hll2, _, hlc⟩ := (H9.out.2.below (Nat.le_refl _) HB.out).one (v := Value.int .i64) (fun _ => rfl) (i := i) hlt
        subst hlb
        have hmem : R.live.getD i 0 ∈ R.live := by rw [List.getD_eq_getElem?_getD, List.getElem?_eq_getElem (by have := HRn.out.2; omega)]; simp
        obtain ⟨j, hj, hyj⟩ := HFx.out _ ((mem_live R _).1 hmem).2.2
        obtain ⟨y, hy⟩ : ∃ y, y = R.live.getD i 0 := ⟨_, rfl⟩
        rw [← hy] at hlc hyj
        have HY : Hid (y = f j) := hyj
        clear hmem hyj hy
        have m1 : (j + 1) % n < n := Nat.mod_lt _ (by omega)
        have m2 : (j + n - 1) % n < n := Nat.mod_lt _ (by omega)
        have c0 := cell_grown HX.out.1 BB.out
        have c1 := cell_grown HX.out.2 BB.out
        have cl := cell_block c0
        go_wp2_with fail
        refine Calls.mono (HPe.out j y hj HY.out _ BB.out) ?_
        rintro e w10 ⟨a3, k3, rfl, hs1, hsn, hk3, b10⟩
        obtain ⟨pid, hpid⟩ : ∃ x, x = P.getD j 0 := ⟨_, rfl⟩
        obtain ⟨z1, hz1⟩ : ∃ x, x = f ((j + 1) % n) := ⟨_, rfl⟩
        obtain ⟨z2, hz2⟩ : ∃ x, x = f ((j + n - 1) % n) := ⟨_, rfl⟩
        rw [← hz1] at hsn
        rw [← hpid, ← hz2]
        have HZ : Hid (pid = P.getD j 0 ∧ z1 = f ((j + 1) % n) ∧ z2 = f ((j + n - 1) % n) ∧ Plc pid) := ⟨hpid, hz1, hz2, by rw [hpid]; exact HPp.out.2.2.2 j⟩
        obtain ⟨W10, hW10⟩ : ∃ W10, W10 = w10.alloc (.cells #[.int .u64 pid, .int .i64 z2, .slice a3 3 k3] 63) := ⟨_, rfl⟩
        have B10 : Below wr.heap.size wr W10 := by rw [hW10]; exact b10.trans ((below_one _ _).mono b10.size)
        have hin10 : InIn W10 a3 3 (idPe R C j).succ := hs1.below (Nat.le_refl _) (by rw [hW10]; exact below_one _ _)
        obtain ⟨ga, oa, hga, hgl, _, hcell⟩ := hin10.one (v := Value.int .i64) (fun _ => rfl) (i := 0) (by omega)
        subst hga
        rw [hsn, Nat.add_zero] at hcell
        have H10 : Hid (Below W6.heap.size W6 W10 ∧ Below w9.heap.size w9 W10 ∧ W10.heap[w10.heap.size]? = some (.cells #[.int .u64 pid, .int .i64 z2, .slice (some ⟨ga, oa, none⟩) 3 k3] 63 (0, 0)) ∧ W10.cell? ⟨ga, oa, none⟩ = some (.int .i64 z1)) := ⟨BB.out.trans (B10.mono BB.out.size), HB.out.trans (B10.mono HB.out.size), by rw [hW10]; exact heap_alloc_new w10 _, hcell⟩
        clear hpid hz1 hz2 hs1 hsn b10 B10 hin10 hgl hcell c0 c1 cl hlc hll2
        go_upto_region 12 with fail
        rw [← hW10]
        clear hW10
        generalize w10.heap.size = q10 at H10 ⊢
        have c0 := cell_grown HX.out.1 H10.out.1
        have c1 := cell_grown HX.out.2 H10.out.1
        obtain ⟨u0, u1, u2, ul⟩ := c3_block H10.out.2.2.1
        have uc := H10.out.2.2.2
        have ho1 : ownerN P pid = j := by rw [HZ.out.1]; exact owner_at HPp.out.1 (by rw [HPp.out.2.1]; exact hj)
        have ho2 : ownerN P ((pid + 1) % 18446744073709551616) = ((j + 1) % n : Nat) := by
          have := owner_next HPp.out.1 HPp.out.2.2.2 (i := j) (by rw [HPp.out.2.1]; exact hj)
          rw [HPp.out.2.1, ← HZ.out.1] at this; exact this
        have hwr : IntKind.u64.wrap (pid + 1) = (pid + 1) % 18446744073709551616 := by simp [IntKind.wrap, IntKind.bits, IntKind.signed]
        have HO : Hid (ownerN P pid = j ∧ ownerN P ((pid + 1) % 18446744073709551616) = ((j + 1) % n : Nat) ∧ ownerN P (IntKind.u64.wrap (pid + 1)) = ((j + 1) % n : Nat)) := ⟨ho1, ho2, by rw [hwr]; exact ho2⟩
        clear ho1 ho2 hwr
        obtain ⟨ι, F, _, hF0, hFb, hFc⟩ := grown_fam W10
        have f0 : ∀ i, (F i).cell? ⟨q, 0, none⟩ = _ := fun i => cell_grown c0 (hFb i)
        have f1 : ∀ i, (F i).cell? ⟨q, 1, none⟩ = _ := fun i => cell_grown c1 (hFb i)
        have g0 : ∀ i, (F i).cell? ⟨q10, 0, none⟩ = _ := fun i => cell_grown u0 (hFb i)
        have g2 : ∀ i, (F i).cell? ⟨q10, 2, none⟩ = _ := fun i => cell_grown u2 (hFb i)
        have g3 : ∀ i, (F i).cell? ⟨ga, oa, none⟩ = _ := fun i => cell_grown uc (hFb i)
        have HF : Hid ((∃ i, { W10 with drawn := W10.drawn + 1 } = F i) ∧ (∀ i, Below W10.heap.size W10 (F i)) ∧ (∀ i W, Below W10.heap.size (F i) W → ∃ j, W = F j)) := ⟨hF0, hFb, hFc⟩
        have HF6 : Hid (∀ i, Below W6.heap.size W6 (F i)) := fun i => H10.out.1.trans ((hFb i).mono H10.out.1.size)
        clear hF0 hFb hFc c0 c1 u0 u1 u2 uc
        refine wp_region_fam F HF.out.1 (by kernel_rfl) (by kernel_rfl) ?_
        repeat (go_big_quiet_step (first
          | (go_at_call 20; refine Calls.mono (HOw.out _ j (by exact HO.out.1) hj _ (HF6.out _)) ?_; rintro e' w' ⟨hs, hb⟩; exact ⟨by rw [hs, ← HY.out], HF.out.2.2 _ _ (hb.mono (HF.out.2.1 _).size)⟩)
          | (go_at_call 20; refine Calls.mono (HOw.out _ ((j + 1) % n) (by exact HO.out.2.2) m1 _ (HF6.out _)) ?_; rintro e' w' ⟨hs, hb⟩; exact ⟨by rw [hs, ← HZ.out.2.1], HF.out.2.2 _ _ (hb.mono (HF.out.2.1 _).size)⟩)
          | (go_at_call 26; refine Calls.mono (HFi.out j y hj HY.out _ (HF6.out _)) ?_; rintro e' w' ⟨hs, hb⟩; exact ⟨by rw [hs, ← HZ.out.2.1], HF.out.2.2 _ _ (hb.mono (HF.out.2.1 _).size)⟩)))
        refine wpQuiet_nil ?_
        rintro _ ⟨i2, rfl⟩
        have H12 : Hid (Below W6.heap.size W6 (F i2) ∧ Below w9.heap.size w9 (F i2) ∧ (F i2).heap[q10]? = some (.cells #[.int .u64 pid, .int .i64 z2, .slice (some ⟨ga, oa, none⟩) 3 k3] 63 (0, 0))) := ⟨HF6.out i2, H10.out.2.1.trans ((HF.out.2.1 i2).mono H10.out.2.1.size), ((HF.out.2.1 i2).block _ (lt_of_block H10.out.2.2.1)).trans H10.out.2.2.1⟩
        clear f0 f1 g0 g2 g3 HF HF6 ul H10 HO HFi
        generalize F i2 = W12 at H12 ⊢
        have c0 := cell_grown HX.out.1 H12.out.1
        have c1 := cell_grown HX.out.2 H12.out.1
        have cl := cell_block c0
        obtain ⟨u0, u1, u2, ul⟩ := c3_block H12.out.2.2
        go_upto_region 14 with fail
        go_wp2_with fail
        refine Calls.mono (HPe.out _ z2 m2 HZ.out.2.2.1 _ H12.out.1) ?_
        rintro e w13 ⟨a4, k4, rfl, hs4, hsn4, hk4, b13⟩
        obtain ⟨qid, hqid⟩ : ∃ x, x = P.getD ((j + n - 1) % n) 0 := ⟨_, rfl⟩
        obtain ⟨z3, hz3⟩ : ∃ x, x = f (((j + n - 1) % n + n - 1) % n) := ⟨_, rfl⟩
        have hback : ((j + n - 1) % n + 1) % n = j := by rw [Nat.mod_add_mod, show j + n - 1 + 1 = j + n by omega, Nat.add_mod_right, Nat.mod_eq_of_lt hj]
        rw [hback, ← HY.out] at hsn4
        rw [← hqid, ← hz3]
        have HQ : Hid (qid = P.getD ((j + n - 1) % n) 0 ∧ Plc qid) := ⟨hqid, by rw [hqid]; exact HPp.out.2.2.2 _⟩
        obtain ⟨W14, hW14⟩ : ∃ W14, W14 = w13.alloc (.cells #[.int .u64 qid, .int .i64 z3, .slice a4 3 k4] 63) := ⟨_, rfl⟩
        have B14 : Below W12.heap.size W12 W14 := by rw [hW14]; exact b13.trans ((below_one _ _).mono b13.size)
        have hin14 : InIn W14 a4 3 (idPe R C ((j + n - 1) % n)).succ := hs4.below (Nat.le_refl _) (by rw [hW14]; exact below_one _ _)
        obtain ⟨gb, ob, hgb, hgbl, _, hcell4⟩ := hin14.one (v := Value.int .i64) (fun _ => rfl) (i := 0) (by omega)
        subst hgb
        rw [hsn4, Nat.add_zero] at hcell4
        have H14 : Hid (Below w9.heap.size w9 W14 ∧ W14.heap[q10]? = some (.cells #[.int .u64 pid, .int .i64 z2, .slice (some ⟨ga, oa, none⟩) 3 k3] 63 (0, 0)) ∧ W14.heap[w13.heap.size]? = some (.cells #[.int .u64 qid, .int .i64 z3, .slice (some ⟨gb, ob, none⟩) 3 k4] 63 (0, 0)) ∧ W14.cell? ⟨gb, ob, none⟩ = some (.int .i64 y)) := ⟨H12.out.2.1.trans (B14.mono H12.out.2.1.size), (B14.block _ (lt_of_block H12.out.2.2)).trans H12.out.2.2, by rw [hW14]; exact heap_alloc_new w13 _, hcell4⟩
        clear hqid hz3 hback hs4 hsn4 b13 B14 hin14 hgbl hcell4 c0 c1 cl u0 u1 u2 ul H12
        go_upto_region 15 with fail
        rw [← hW14]
        clear hW14
        generalize w13.heap.size = q14 at H14 ⊢
        obtain ⟨u0, u1, u2, ul⟩ := c3_block H14.out.2.1
        obtain ⟨v0, v1, v2, vl⟩ := c3_block H14.out.2.2.1
        have uc := H14.out.2.2.2
        have nyy : (y != y) = false := by simp
        have hiff := owner_iff HPp.out.1 HPp.out.2.2.2 (by rw [HPp.out.2.1]; omega) (i := j) (by rw [HPp.out.2.1]; exact hj) HX2.out
        rw [HPp.out.2.1, ← HQ.out.1, ← HZ.out.1, HKo.out] at hiff
        have hw1 : IntKind.u64.wrap (a2 - qid) = (a2 - qid) % 18446744073709551616 := by simp [IntKind.wrap, IntKind.bits, IntKind.signed]
        have hw2 : ∀ u : Int, IntKind.u64.wrap (u - 1) = (u - 1) % 18446744073709551616 := fun u => by simp [IntKind.wrap, IntKind.bits, IntKind.signed]
        have hw3 : IntKind.u64.wrap (pid - qid) = (pid - qid) % 18446744073709551616 := by simp [IntKind.wrap, IntKind.bits, IntKind.signed]
        by_cases hkj : ko = j
        · have t1 := hiff.1 (by rw [hkj])
          have t2 : IntKind.u64.wrap (IntKind.u64.wrap (a2 - qid) - 1) < IntKind.u64.wrap (pid - qid) := by
            rw [hw1, hw2, hw3]; omega
          have t3 : decide (IntKind.u64.wrap (IntKind.u64.wrap (a2 - qid) - 1) < IntKind.u64.wrap (pid - qid)) = true := by simpa using t2
          have e1 : (f ko == y) = true := by rw [hkj, ← HY.out]; simp
          clear hiff hw1 hw2 hw3 t1 hkj
          go_wp2
          go_roundg (n - (i + 1))
          case measure => omega
          case rel => exact ⟨i + 1, by go_num, by omega, rfl, H14.out.1⟩
        · have t1 : ¬ _ := fun q => hkj (by have := hiff.2 q; omega)
          have t2 : ¬ IntKind.u64.wrap (IntKind.u64.wrap (a2 - qid) - 1) < IntKind.u64.wrap (pid - qid) := by
            rw [hw1, hw2, hw3]; omega
          have t3 : decide (IntKind.u64.wrap (IntKind.u64.wrap (a2 - qid) - 1) < IntKind.u64.wrap (pid - qid)) = false := by simpa using t2
          have e1 : (f ko == y) = false := by
            have : f ko ≠ y := fun q => hkj (HFj.out _ _ hkn hj (by rw [q]; exact HY.out))
            simpa using this
          clear hiff hw1 hw2 hw3 t1 hkj
          go_wp2
          go_roundg (n - (i + 1))
          case measure => omega
          case rel => exact ⟨i + 1, by go_num, by omega, rfl, H14.out.1⟩
      · go_wp2_with fail
        refine (awake11_any _).mono ?_
        rintro e w10 ⟨rfl, b10⟩
        go_wp2
        go_ret
        have hB := HRn.out.1.below BB.out
        exact ⟨rfl, hB.bel.trans (b10.mono hB.bel.size)⟩

/-! ### The row's step -/
set_option maxRecDepth 100000 in
theorem lifted (os : Os) (started : os.Started) (H : Type) (enc : TypeId × Value → H) :
    ReturnsInHanded {} Tryz.checked os 5 .any (fun w args => (Rows.idealOwnsSpec.pre enc Tryz.prog Tryz.f5 [] false w args ∧ laidMetH Tryz.prog Rows.idealOwnsRow.laid w) ∧ sizedMet enc Tryz.prog Tryz.f5 (OpenSpec.ofChange Rows.idealOwnsSpec) false w args) (Rows.idealOwnsSpec.post enc Tryz.prog Tryz.f5 false true false false) := by
  refine returnsInHanded_of_change_and (C := Tryz.checked) (X := fun w _ => laidMetH Tryz.prog Rows.idealOwnsRow.laid w) (fun _ _ _ hh h => h.of_heap hh) own started (by kernel_rfl) Tryz.func5
    (ChangeSpec.witness_at (enc := enc) (C := Tryz.checked) (os := os) (X := fun w _ => laidMetH Tryz.prog Rows.idealOwnsRow.laid w) false ({ World.holding Tryz.prog os ⟨#[], #[], []⟩ with heap := (World.holding Tryz.prog os ⟨#[], #[], []⟩).heap.modify 0 fun | .cells _ t frozen => .cells #[.iface 148 (.agg #[.pointer (some ⟨1, 26, none⟩)])] t frozen | o => o }) #[.slice none 0 0, .slice none 0 0, .int .u64 0] 8 rfl (by kernel_rfl) (by kernel_rfl) (by kernel_rfl) (by kernel_rfl) (by kernel_rfl) (laidMetH_of_parts (laidMet_nil _ _) (by kernel_rfl))) ?_
  intro W base args ds gs before hval0 hW _ _ hL _
  have hval : ∀ (j : Nat) t v, Tryz.f5.params[j]? = some t → args[j]? = some v → Value.okWide Tryz.prog W .any base t v := hval0
  have hW' := hW
  obtain ⟨p, q, hA0, hV, rfl, hfz, hnd⟩ := hW
  have hA : DataW.TrodAll enc Tryz.prog W 0 (fun _ => true) true Tryz.f5.params.toList args.toList ds p := hA0
  rw [Tryz.params5] at hA hval
  obtain ⟨v0, vs0, d0, ds0, p0, q0, hargs, rfl, rfl, h0, r0⟩ := trodAll_cons hA
  obtain ⟨v1, vs1, d1, ds1, p1, q1, rfl, rfl, rfl, h1, r1⟩ := trodAll_cons r0
  obtain ⟨v2, vs2, d2, ds2, p2, q2, rfl, rfl, rfl, h2, r2⟩ := trodAll_cons r1
  obtain ⟨rfl, rfl, rfl⟩ := trodAll_nil r2
  obtain rfl : args = #[v0, v1, v2] := by cases args; simp_all
  obtain ⟨rfl, rfl⟩ := trodVars_none hV
  obtain ⟨a0, len0, cap0, rfl⟩ := okWide_slice Tryz.underlying22 (hval 0 22 v0 rfl rfl)
  have k0 := h0
  have lt0 : ∀ x ∈ p0, x.block < W.heap.size := by obtain ⟨m, hm⟩ := k0; exact DataW.trod_lt m _ _ _ hm
  have c0 : len0 ≤ cap0 := by
    obtain ⟨fuel, hf⟩ := h0
    exact incap_of Tryz.underlying22 hf
  obtain ⟨t0, w0⟩ : ∃ ts, InRow 1 encU Go.Proofs.YtgiiadjocfnhlaaGreatDoor.u64 0 W a0 len0 ts := by
    obtain ⟨fuel, hf⟩ := h0
    exact inrow_of 1 encU Go.Proofs.YtgiiadjocfnhlaaGreatDoor.u64 0 22 45 Tryz.underlying22 cellsU1 (by omega) lenU (fun n cs x => uid_of n cs x) hf
  obtain ⟨a1, len1, cap1, rfl⟩ := okWide_slice Tryz.underlying23 (hval 1 23 v1 rfl rfl)
  have k1 := h1
  have lt1 : ∀ x ∈ p1, x.block < W.heap.size := by obtain ⟨m, hm⟩ := k1; exact DataW.trod_lt m _ _ _ hm
  have c1 : len1 ≤ cap1 := by
    obtain ⟨fuel, hf⟩ := h1
    exact incap_of Tryz.underlying23 hf
  obtain ⟨t1, w1⟩ : ∃ ts, InRow 4 Ac10.cells Ac10.ok ac100 W a1 len1 ts := by
    obtain ⟨fuel, hf⟩ := h1
    exact inrow_of 4 Ac10.cells Ac10.ok ac100 23 47 Tryz.underlying23 cellsAc10 (by omega) lenAc10 (fun n cs x => ac10_of n cs x) hf
  obtain ⟨a2, rfl, rfl, rfl, w2⟩ := open_int Tryz.underlying45 (hval 2 45 v2 rfl rfl) h2
  clear hA0 hval0
  have hE := handle_of_laid hL
  refine (walk a0 len0 cap0 t0 a1 len1 cap1 t1 a2 W hE w0 c0 w1 c1 w2).mono fun e W' ⟨he, bel⟩ => ?_
  subst he
  exact ⟨_, rfl, _, _, _, [], _, [], hW', trodAll_mk1 (shut_bool Tryz.underlying4 _), (trodAll_cons_mk (Below.trod laidOut (by kernel_rfl) (of_decide_eq_true (by kernel_rfl)) k0 bel lt0) (trodAll_cons_mk (Below.trod laidOut (by kernel_rfl) (of_decide_eq_true (by kernel_rfl)) k1 bel lt1) (trodAll_cons_mk (shut_int Tryz.underlying45 w2) trodAll_mk0))), rfl, bel.frame _, fun h => by cases h⟩

theorem over : Rows.idealOwnsRow.holds Tryz.pinned (OpenSpec.ofChange Rows.idealOwnsSpec) :=
  OpenClaim.holds_of_wide 5 Tryz.f5 rfl rfl rfl rfl rfl rfl rfl ⟨rfl, rfl, rfl, rfl, rfl⟩ rfl rfl rfl rfl rfl (by kernel_rfl) Tryz.func5 (by kernel_rfl)
    (of_decide_eq_true (by kernel_rfl)) (by unfold Func.isWrapper; first | (rw [if_pos (by decide +kernel)]; kernel_rfl) | (rw [if_neg (by decide +kernel)]; exact ⟨rfl, rfl⟩))
    (fun os started H enc _ => lifted os started H enc)

theorem card : Rows.IdealOwnsCardSaid :=
  Claim7.holds_tied_plain_at .later [] [.handle] true (true, "170ad6b271f38bc5b5dbb1b4a980e5bb8601c676c340595c17378d516a0c30dd") true
    over (fun _ h => by cases h) (by kernel_rfl) (fun _ h => by cases h) idealOwns_row_tie rfl ⟨rfl, rfl⟩ (by kernel_rfl) rfl
    (fun f fn hf hfn => by
      obtain rfl : f = 5 := Option.some.inj ((show Tryz.prog.funcNamed "wigwag/wigwaglaw11.IdealOwns" = some 5 by kernel_rfl).symm.trans hf) |>.symm
      obtain rfl : fn = Tryz.f5 := (Option.some.inj (Tryz.func5.symm.trans hfn)).symm
      exact ⟨by kernel_rfl, fun j t ht => by
        rw [Tryz.params5] at ht
        have hall : ∀ t ∈ ([22, 23, 45] : List TypeId), Tryz.prog.wantsStandIn t = false := by
          intro t ht
          simp only [List.mem_cons, List.not_mem_nil, or_false] at ht
          rcases ht with rfl | rfl | rfl <;> kernel_rfl
        exact hall t (by simpa using List.mem_of_getElem? (l := ([22, 23, 45] : List TypeId)) (i := j) (by simpa using ht))⟩)
    (by kernel_rfl)

end Go.Proofs.YtgiiadjocfnhlaaGreatDoor.idealOwns

namespace Go.Proofs.YtgiiadjocfnhlaaGreatDoor
/-- Proved: for every list of places, every list of calls and every place: behind any 30 calls each place is one member's, the fingers of all members are owners, and Pred's place, and all up to it, are Pred's; errors.errorType being laid as the program's text lays it (the card's tie, over the pruned copy). -/
theorem idealOwns_holds : Rows.IdealOwnsCardSaid := idealOwns.card
#print axioms idealOwns_holds
end Go.Proofs.YtgiiadjocfnhlaaGreatDoor
