/- wigwagref10.New. -/
import Derived.Test.YtmajlldfiiokoaaGreatDoorRfNw0
namespace Go.Proofs.YtmajlldfiiokoaaGreatDoor
open Go.ChangeShapes Go.WideShapes Go.ChangeAt Go.RowKit Go.Deep
set_option linter.unusedVariables false

def rf0 : Value := .agg #[.slice none 0 0, .slice none 0 0, .slice none 0 0, .slice none 0 0]
set_option maxRecDepth 100000 in
set_option maxHeartbeats 4000000 in
theorem rnew_len (a : Option Addr) (n cap : Nat) (w : World) (hn : n ≠ 4) (hm : n ≤ 9223372036854775807) :
    Calls Tryz.prog 45 #[.slice a n cap] w fun e w' => e = .returned (.tuple #[rf0, .int .i64 1]) ∧ Below w.heap.size w w' := by
  have q : ((n : Int) != 4) = true := by simp; omega
  go_enter Tryz.func45, Tryz.ntmps45
  go_wp2
  refine bodyPost_ret (v := .tuple #[rf0, .int .i64 1]) (by simp [results, Tryz.results45, go_sem, rf0]) rfl ⟨rfl, below_one _ _⟩

theorem NwA.start (w w2 : World) (b : Nat) (hb : b = w2.heap.size) (hlt : w.heap.size < w2.heap.size) (hres : w2.heap[w.heap.size]? = some (.cells #[.slice none 0 0, .slice none 0 0, .slice none 0 0, .slice none 0 0] 32 (0, 0))) (hbel : Below w.heap.size w w2) :
    NwA (b + 1) w (w2.alloc (.cells #[.slice none 0 0, .slice none 0 0, .slice none 0 0, .slice none 0 0] 32)) b (.slice none 0 0) (.slice none 0 0) (.slice none 0 0) (.slice none 0 0) [] [] [] [] := by
  subst hb
  have hn : ∀ g, (Value.slice none 0 0).ownBlock = some g → (Value.slice none 0 0).ownBlock ≠ some g := fun g h => by simp [Value.ownBlock] at h
  exact ⟨heap_alloc_new w2 _, World.ownsRow_nil _ _ _ 1, World.ownsRow_nil _ _ _ 1, World.ownsRow_nil _ _ _ 1, World.ownsRow_nil _ _ _ 3, hn, hn, hn, hn, hn, hn, Nat.lt_succ_self _, hlt, (Below.heap_alloc _ _ _ hlt).trans hres, hbel.trans ((below_one _ _).mono hbel.size)⟩
theorem src_one {w : World} {T E : TypeId} (hT : Tryz.prog.underlying T = some (.slice E)) (x : Value) (hx : x.oneCell' = true) : Src Tryz.prog 1 T (.slice (some ⟨w.heap.size, 0, none⟩) 1 1) 1 [x] (w.alloc (.cells #[x] E)) :=
  Src.ofSlice _ hT _ _ _ _ rfl (World.news_of_block (cs := #[x]) (t := E) (fr := (0, 0)) (heap_alloc_new w _)) (by intro u hu; simp at hu; subst hu; exact hx)
theorem src_pr3 {w : World} : Src Tryz.prog 3 30 (.slice (some ⟨w.heap.size, 0, none⟩) 1 1) 1 pr30.cells (w.alloc (.cells #[.int .u64 0, .int .i64 0, .slice none 0 0] 140)) :=
  Src.ofSlice _ Tryz.underlying30 _ _ _ _ rfl (World.news_of_block (cs := #[.int .u64 0, .int .i64 0, .slice none 0 0]) (t := 140) (fr := (0, 0)) (heap_alloc_new w _)) (by intro u hu; simp [Pr3.cells, pr30] at hu; rcases hu with rfl | rfl | rfl <;> rfl)

theorem i4_ok {l : List Int} (hu : ∀ k : Nat, Plc (l.getD k 0)) (j : Nat) : ∀ x ∈ i4 l j, u64 x := by
  intro x hx
  obtain ⟨k, _, rfl⟩ := List.mem_map.1 hx
  split
  · have := hu k; unfold Plc at this; unfold u64; omega
  · unfold u64; omega
theorem c3_block {w : World} {b : Nat} {a0 a1 a2 : Value} {t : TypeId} (h : w.heap[b]? = some (.cells #[a0, a1, a2] t (0, 0))) : w.cell? ⟨b, 0, none⟩ = some a0 ∧ w.cell? ⟨b, 1, none⟩ = some a1 ∧ w.cell? ⟨b, 2, none⟩ = some a2 ∧ b < w.heap.size :=
  ⟨by simp [World.cell?, h], by simp [World.cell?, h], by simp [World.cell?, h], lt_of_block h⟩
theorem own_cap {w : World} {B n g c k : Nat} {e : TypeId} {xs : List Value} (h : w.ownsRow B e k (.slice (some ⟨g, 0, none⟩) n c) n xs) : n ≤ c ∧ c ≤ 9223372036854775807 := by
  rcases h.2 with ⟨q, _⟩ | ⟨g', cap, cur, q, _, _, h1, h2, _⟩
  · cases q
  · cases q; unfold maxLen at h2; omega
theorem own_fz {w : World} {B n g c k : Nat} {e : TypeId} {xs : List Value} (h : w.ownsRow B e k (.slice (some ⟨g, 0, none⟩) n c) n xs) (j : Nat) : w.frozen? ⟨g, j, none⟩ = false := by
  rcases h.2 with ⟨q, _⟩ | ⟨g', cap, cur, q, _, hg, _⟩
  · cases q
  · cases q; exact fz_block hg j
theorem plc_u6 {x : Int} (h : Plc x) : 0 ≤ x ∧ x ≤ 18446744073709551615 := by unfold Plc at h; omega
theorem itn_step (l : List Int) (n : Int) (j : Nat) : bhF l (l.getD (itn l n j).toNat 0) 4 = itn l n (j + 1) := rfl
theorem pr_ok {y z : Int} {a : Option Addr} {n c : Nat} (hy : Plc y) (hz : 0 ≤ z ∧ z < 4) : (⟨y, z, a, n, c⟩ : Pr3).ok := by
  unfold Plc at hy
  exact ⟨by show u64 y; unfold u64; omega, by show i64 z; unfold i64; omega⟩

set_option maxRecDepth 100000 in
set_option maxHeartbeats 8000000 in
theorem rnew_four (a : Option Addr) (cap : Nat) (l : List Int) (w : World) (h : IdIn w a 4 l) :
    Calls Tryz.prog 45 #[.slice a 4 cap] w fun e w' =>
      ((∃ S : List Int, S.Pairwise (· < ·) ∧ (∀ x, x ∈ S ↔ x ∈ l) ∧ S.length < 4 ∧ e = .returned (.tuple #[rf0, .int .i64 8])) ∨
       (∃ (S : List Int) (v' : Value), S.Pairwise (· < ·) ∧ (∀ x, x ∈ S ↔ x ∈ l) ∧ S.length = 4 ∧ e = .returned (.tuple #[v', .int .i64 0]) ∧ RfV w' (newTo l (circleOf l S) 4) v')) ∧ Below w.heap.size w w' := by
  obtain ⟨iB0, iBa, iBb, iBc, iBd⟩ := info_ofP Tryz.infoBo
  obtain ⟨iU0, iUa, iUb, iUc, iUd⟩ := info_ofP Tryz.infoU8
  obtain ⟨iP0, iPa, iPb, iPc, iPd⟩ := info_ofP Tryz.infoP3
  obtain ⟨i0, hif, hz0, hz1, hz2⟩ := info_of Tryz.infoInt
  have HI : Hid (IdIn w a 4 l) := h
  have HLL : Hid (l.length = 4) := h.1
  have HU : Hid (∀ k : Nat, Plc (l.getD k 0)) := fun k => by
    by_cases q : k < 4
    · have := inrow_ok h (by omega) (l.getD k 0) (by rw [List.getD_eq_getElem?_getD, List.getElem?_eq_getElem (by have := h.1; omega)]; simp)
      unfold u64 at this; unfold Plc; omega
    · have e : l.getD k 0 = 0 := by simp [List.getD, List.getElem?_eq_none (by have := h.1; omega : l.length ≤ k)]
      rw [e]; unfold Plc; omega
  clear h
  go_enter Tryz.func45, Tryz.ntmps45
  obtain ⟨W1, hW1⟩ : ∃ W1, W1 = w.alloc (.cells #[.slice none 0 0, .slice none 0 0, .slice none 0 0, .slice none 0 0] 32) := ⟨_, rfl⟩
  have H1 : Hid (Below w.heap.size w W1 ∧ W1.heap[w.heap.size]? = some (.cells #[.slice none 0 0, .slice none 0 0, .slice none 0 0, .slice none 0 0] 32 (0, 0))) := by rw [hW1]; exact ⟨below_one _ _, heap_alloc_new _ _⟩
  go_upto_region 1 with fail
  rw [← hW1]
  clear hW1
  have hl1 := lt_of_block H1.out.2
  go_wp2_with fail
  refine (refsorted_any a 4 cap l W1 (ids_at (HI.out.below (Nat.le_refl _) H1.out.1)) (by omega)).mono ?_
  rintro e w2 ⟨v, rfl, S, hmd, hp, hmem⟩
  have hSl : S.length ≤ 4 := by have := rise_len S l hp (fun x hx => (hmem x).1 hx); rw [HLL.out] at this; exact this
  have HS : Hid (S.Pairwise (· < ·) ∧ (∀ x, x ∈ S ↔ x ∈ l)) := ⟨hp, hmem⟩
  obtain ⟨sa, sc, hv⟩ := hmd.shape
  subst hv
  have H2 : Hid (Below w.heap.size w w2 ∧ w2.heap[w.heap.size]? = some (.cells #[.slice none 0 0, .slice none 0 0, .slice none 0 0, .slice none 0 0] 32 (0, 0)) ∧ w.heap.size < w2.heap.size) := ⟨H1.out.1.trans (hmd.below.mono H1.out.1.size), (hmd.below.block _ hl1).trans H1.out.2, Nat.lt_of_lt_of_le hl1 hmd.below.size⟩
  clear hp hmem hmd H1 hl1
  by_cases q : S.length < 4
  · obtain ⟨s0, s1, s2, s3, sl⟩ := c4_block H2.out.2.1
    have sf := fz_block H2.out.2.1
    obtain ⟨nS, hnS⟩ : ∃ nS, nS = S.length := ⟨_, rfl⟩
    have HQ : Hid (S.length < 4) := q
    rw [← hnS] at q ⊢
    have hq4 : ((nS : Int) != 4) = true := by simp; omega
    clear hnS hSl
    go_wp2
    refine bodyPost_ret (v := .tuple #[rf0, .int .i64 8]) (by simp [results, Tryz.results45, go_sem, rf0, s0, s1, s2, s3]) rfl ⟨.inl ⟨S, HS.out.1, HS.out.2, HQ.out, rfl⟩, ?_⟩
    exact (((H2.out.1.setCell (Nat.le_refl _) _).setCell (Nat.le_refl _) _).setCell (Nat.le_refl _) _).setCell (Nat.le_refl _) _
  · have hS4 : S.length = 4 := by omega
    rw [hS4]
    have HS4 : Hid (S.length = 4) := hS4
    clear q hSl hS4
    obtain ⟨c0, c1, c2, c3, hcir⟩ := circ_of HLL.out HS.out.1 HS.out.2 HS4.out
    have HC : Hid (Circ l (circleOf l S) c0 c1 c2 c3) := hcir
    have HN : Hid (∀ n, 0 ≤ n → n < 4 → 0 ≤ nx l n ∧ nx l n < 4) := fun n h0 h4 => (new_kn hcir (hcir.rise HS.out.1 HS.out.2) HU.out n h0 h4).2.1
    clear hcir
    obtain ⟨X0, hX0⟩ : ∃ X0, X0 = w2.alloc (.cells #[.slice none 0 0, .slice none 0 0, .slice none 0 0, .slice none 0 0] 32) := ⟨_, rfl⟩
    obtain ⟨b, hb⟩ : ∃ b, b = w2.heap.size := ⟨_, rfl⟩
    have HX : Hid (NwA (b + 1) w X0 b (.slice none 0 0) (.slice none 0 0) (.slice none 0 0) (.slice none 0 0) [] [] [] []) := by rw [hX0]; exact NwA.start w w2 b hb H2.out.2.2 H2.out.2.1 H2.out.1
    go_upto_region 6 with fail
    rw [← hX0, ← hb]
    clear hX0 hb H2
    go_wp2
    go_loopg [5] 32 (fun kx s wr => ∃ (j : Nat) (v0 v1 v2 v3 : Value), s = .int .i64 j ∧ j ≤ 32 ∧ kx = 32 - j ∧ Hid (NwA (b + 1) w wr b v0 v1 v2 v3 (b4 j) (b4 j) (List.replicate j 0) (List.replicate j pr30)))
    case atStart => exact ⟨0, _, _, _, _, rfl, Nat.zero_le _, rfl, HX⟩
    case round =>
      obtain ⟨j, v0, v1, v2, v3, rfl, hj, rfl, H⟩ := hrel
      clear HX
      by_cases hlt : j < 32
      · have hjI : (0 : Int) ≤ (j : Int) ∧ (j : Int) < 32 := by omega
        have LN : Hid ((b4 j).length = j) := b4_len j
        obtain ⟨r0, r1, r2, r3, rl⟩ := c4_block H.out.box
        obtain ⟨d, hd⟩ : ∃ d, decide ((j : Int) < 4) = d := ⟨_, rfl⟩
        have HD : Hid (decide ((j : Int) < 4) = d) := hd
        have HS1 : Hid (Src Tryz.prog 1 26 (.slice (some ⟨wr.heap.size, 0, none⟩) 1 1) 1 [.bool d] (wr.alloc (.cells #[.bool d] 4))) := src_one Tryz.underlying26 _ rfl
        have HA : Hid (NwA (b + 1) w (wr.alloc (.cells #[.bool d] 4)) b v0 v1 v2 v3 (b4 j) (b4 j) (List.replicate j 0) (List.replicate j pr30)) := H.out.below (below_one _ _)
        clear H
        go_wp2_with (at_builtin; refine wpList_own_append _ rfl _ _ 26 26 rfl (b + 1) 4 iB0 _ 1 Tryz.underlying26 iBa iBb iBc iBd rfl _ _ _ rfl HA.out.u _ 1 _ rfl HS1.out ?c3 ?c4 ?c5 ?_)
        case c3 => rw [LN.out]; unfold maxLen; omega
        case c4 => rw [LN.out]; omega
        case c5 => simp; omega
        intro v' w3 ha
        obtain ⟨a1, k1, hv1⟩ := ha.shape
        rw [LN.out] at hv1
        have hbx : w3.heap[b]? = _ := (ha.grown.block b (by simp; omega) (fun e => by have := (HA.out.u.lt _ e.symm).1; omega)).trans HA.out.box
        have f0 := fz_block hbx 0
        obtain ⟨X1, hX1⟩ : ∃ X1, X1 = w3.setCell ⟨b, 0, none⟩ v' := ⟨_, rfl⟩
        have H1 : Hid (NwA (b + 1) w X1 b v' v1 v2 v3 (b4 (j + 1)) (b4 j) (List.replicate j 0) (List.replicate j pr30)) := by
          rw [hX1, ← b4_succ, HD.out]
          exact HA.out.app0 d (by simp) (by simp [bl]) ha
        subst hv1
        clear ha HA HS1 r0 r1 r2 r3 rl
        obtain ⟨r0, r1, r2, r3, rl⟩ := c4_block hbx
        clear hbx
        go_upto_region 10 with fail
        rw [← hX1]
        clear hX1 f0 r0 r1 r2 r3 rl
        -- the second row
        obtain ⟨r0, r1, r2, r3, rl⟩ := c4_block H1.out.box
        have HS1 : Hid (Src Tryz.prog 1 26 (.slice (some ⟨X1.heap.size, 0, none⟩) 1 1) 1 [.bool d] (X1.alloc (.cells #[.bool d] 4))) := src_one Tryz.underlying26 _ rfl
        have HA : Hid (NwA (b + 1) w (X1.alloc (.cells #[.bool d] 4)) b (.slice a1 (j + 1) k1) v1 v2 v3 (b4 (j + 1)) (b4 j) (List.replicate j 0) (List.replicate j pr30)) := H1.out.below (below_one _ _)
        clear H1
        go_wp2_with (at_builtin; refine wpList_own_append _ rfl _ _ 26 26 rfl (b + 1) 4 iB0 _ 1 Tryz.underlying26 iBa iBb iBc iBd rfl _ _ _ rfl HA.out.l _ 1 _ rfl HS1.out ?c3 ?c4 ?c5 ?_)
        case c3 => rw [LN.out]; unfold maxLen; omega
        case c4 => rw [LN.out]; omega
        case c5 => simp; omega
        intro v' w4 ha
        obtain ⟨a2, k2, hv2⟩ := ha.shape
        rw [LN.out] at hv2
        have hbx : w4.heap[b]? = _ := (ha.grown.block b (by simp; omega) (fun e => by have := (HA.out.l.lt _ e.symm).1; omega)).trans HA.out.box
        have f0 := fz_block hbx 1
        obtain ⟨X2, hX2⟩ : ∃ X2, X2 = w4.setCell ⟨b, 1, none⟩ v' := ⟨_, rfl⟩
        have H2 : Hid (NwA (b + 1) w X2 b (.slice a1 (j + 1) k1) v' v2 v3 (b4 (j + 1)) (b4 (j + 1)) (List.replicate j 0) (List.replicate j pr30)) := by
          rw [hX2]
          have := HA.out.app1 d (by simp) (by simp [bl]) ha
          rw [← HD.out, b4_succ] at this
          exact this
        subst hv2
        clear ha HA HS1 r0 r1 r2 r3 rl hd
        obtain ⟨r0, r1, r2, r3, rl⟩ := c4_block hbx
        clear hbx
        go_upto_region 11 with fail
        rw [← hX2]
        clear hX2 f0 r0 r1 r2 r3 rl
        -- the third
        have LI : Hid ((List.replicate j (0 : Int)).length = j) := List.length_replicate
        have LP : Hid ((List.replicate j pr30).length = j) := List.length_replicate
        obtain ⟨Ij, hIj⟩ : ∃ Ij, Ij = List.replicate j (0 : Int) := ⟨_, rfl⟩
        obtain ⟨Pj, hPj⟩ : ∃ Pj, Pj = List.replicate j pr30 := ⟨_, rfl⟩
        rw [← hIj] at LI H2
        rw [← hPj] at LP H2
        have HIJ : Hid (Ij ++ [0] = List.replicate (j + 1) (0 : Int) ∧ Pj ++ [pr30] = List.replicate (j + 1) pr30) := ⟨by rw [hIj, List.replicate_succ'], by rw [hPj, List.replicate_succ']⟩
        clear hIj hPj
        obtain ⟨r0, r1, r2, r3, rl⟩ := c4_block H2.out.box
        have HS1 : Hid (Src Tryz.prog 1 27 (.slice (some ⟨X2.heap.size, 0, none⟩) 1 1) 1 [.int .u64 0] (X2.alloc (.cells #[.int .u64 0] 58))) := src_one Tryz.underlying27 _ rfl
        have HA : Hid (NwA (b + 1) w (X2.alloc (.cells #[.int .u64 0] 58)) b (.slice a1 (j + 1) k1) (.slice a2 (j + 1) k2) v2 v3 (b4 (j + 1)) (b4 (j + 1)) Ij Pj) := H2.out.below (below_one _ _)
        clear H2
        go_wp2_with (at_builtin; refine wpList_own_append _ rfl _ _ 27 27 rfl (b + 1) 58 iU0 _ 8 Tryz.underlying27 iUa iUb iUc iUd rfl _ _ _ rfl HA.out.i _ 1 _ rfl HS1.out ?c3 ?c4 ?c5 ?_)
        case c3 => rw [LI.out]; unfold maxLen; omega
        case c4 => rw [LI.out]; omega
        case c5 => simp; omega
        intro v' w5 ha
        obtain ⟨a3, k3, hv3⟩ := ha.shape
        rw [LI.out] at hv3
        have hbx : w5.heap[b]? = _ := (ha.grown.block b (by simp; omega) (fun e => by have := (HA.out.i.lt _ e.symm).1; omega)).trans HA.out.box
        have f0 := fz_block hbx 2
        obtain ⟨X3, hX3⟩ : ∃ X3, X3 = w5.setCell ⟨b, 2, none⟩ v' := ⟨_, rfl⟩
        have H3 : Hid (NwA (b + 1) w X3 b (.slice a1 (j + 1) k1) (.slice a2 (j + 1) k2) v' v3 (b4 (j + 1)) (b4 (j + 1)) (Ij ++ [0]) Pj) := by
          rw [hX3]
          exact HA.out.app2 0 (by simp) (by simp [ul]) ha
        subst hv3
        clear ha HA HS1 r0 r1 r2 r3 rl
        obtain ⟨r0, r1, r2, r3, rl⟩ := c4_block hbx
        clear hbx
        go_upto_region 12 with fail
        rw [← hX3]
        clear hX3 f0 r0 r1 r2 r3 rl
        -- the fourth
        obtain ⟨r0, r1, r2, r3, rl⟩ := c4_block H3.out.box
        have HS1 : Hid (Src Tryz.prog 3 30 (.slice (some ⟨X3.heap.size, 0, none⟩) 1 1) 1 pr30.cells (X3.alloc (.cells #[.int .u64 0, .int .i64 0, .slice none 0 0] 140))) := src_pr3
        have HA : Hid (NwA (b + 1) w (X3.alloc (.cells #[.int .u64 0, .int .i64 0, .slice none 0 0] 140)) b (.slice a1 (j + 1) k1) (.slice a2 (j + 1) k2) (.slice a3 (j + 1) k3) v3 (b4 (j + 1)) (b4 (j + 1)) (Ij ++ [0]) Pj) := H3.out.below (below_one _ _)
        clear H3
        go_wp2_with (at_builtin; refine wpList_own_append3 _ rfl _ _ 30 30 rfl (b + 1) 140 iP0 _ 40 Tryz.underlying30 iPa iPb iPc iPd rfl _ _ _ rfl HA.out.p _ 1 _ rfl HS1.out ?c3 ?c4 ?c5 ?_)
        case c3 => rw [LP.out]; unfold maxLen; omega
        case c4 => rw [LP.out]; omega
        case c5 => simp; omega
        intro v' w6 ha
        obtain ⟨a4, k4, hv4⟩ := ha.shape
        rw [LP.out] at hv4
        have hbx : w6.heap[b]? = _ := (ha.grown.block b (by simp; omega) (fun e => by have := (HA.out.p.lt _ e.symm).1; omega)).trans HA.out.box
        have f0 := fz_block hbx 3
        obtain ⟨X4, hX4⟩ : ∃ X4, X4 = w6.setCell ⟨b, 3, none⟩ v' := ⟨_, rfl⟩
        have H4 : Hid (NwA (b + 1) w X4 b (.slice a1 (j + 1) k1) (.slice a2 (j + 1) k2) (.slice a3 (j + 1) k3) v' (b4 (j + 1)) (b4 (j + 1)) (List.replicate (j + 1) (0 : Int)) (List.replicate (j + 1) pr30)) := by
          rw [hX4, ← HIJ.out.1, ← HIJ.out.2]
          exact HA.out.app3 pr30 (by simp) (by simp [pl3]) ha
        subst hv4
        clear ha HA HS1 r0 r1 r2 r3 rl
        obtain ⟨r0, r1, r2, r3, rl⟩ := c4_block hbx
        clear hbx
        go_wp2
        rw [← hX4]
        go_roundg (32 - (j + 1))
        case measure => omega
        case rel => exact ⟨j + 1, _, _, _, _, by go_num, by omega, rfl, H4⟩
      · obtain rfl : j = 32 := by omega
        obtain ⟨w7, hw7⟩ : ∃ w7, w7 = wr := ⟨_, rfl⟩
        rw [← hw7] at H ⊢
        clear hw7
        have G := H.out
        rw [← i4_zero l] at G
        obtain ⟨Pz, hPz⟩ : ∃ Pz, Pz = List.replicate 32 pr30 := ⟨_, rfl⟩
        have HPz : Hid (Pz.length = 32 ∧ ∀ x ∈ Pz, x.ok) := by
          rw [hPz]; exact ⟨by simp, fun x hx => by rw [(List.mem_replicate.1 hx).2]; exact ⟨by show u64 0; unfold u64; omega, by show i64 0; unfold i64; omega⟩⟩
        rw [← hPz] at G
        obtain ⟨gu, cu, e0, _, _⟩ := own_sl G.u (by rw [b4_len]; omega)
        obtain ⟨gl, cl, e1, _, _⟩ := own_sl G.l (by rw [b4_len]; omega)
        obtain ⟨gi, ci, e2, _, _⟩ := own_sl G.i (by rw [i4_len]; omega)
        obtain ⟨gp, cp, e3, _, _⟩ := own_sl G.p (by rw [HPz.out.1]; omega)
        rw [b4_len] at e0 e1
        rw [i4_len] at e2
        rw [HPz.out.1] at e3
        subst e0 e1 e2 e3
        have HG : Hid (NwA (b + 1) w w7 b (.slice (some ⟨gu, 0, none⟩) 32 cu) (.slice (some ⟨gl, 0, none⟩) 32 cl) (.slice (some ⟨gi, 0, none⟩) 32 ci) (.slice (some ⟨gp, 0, none⟩) 32 cp) (b4 32) (b4 32) (i4 l 0) Pz) := G
        clear G H hPz hj hlt
        go_wp2
        go_loopg [59] 4 (fun kx s wr => ∃ j : Nat, s = .int .i64 j ∧ j ≤ 4 ∧ kx = 4 - j ∧ Hid (NwA (b + 1) w wr b (.slice (some ⟨gu, 0, none⟩) 32 cu) (.slice (some ⟨gl, 0, none⟩) 32 cl) (.slice (some ⟨gi, 0, none⟩) 32 ci) (.slice (some ⟨gp, 0, none⟩) 32 cp) (b4 32) (b4 32) (i4 l j) Pz))
        case atStart => exact ⟨0, rfl, Nat.zero_le _, rfl, HG⟩
        case round =>
          obtain ⟨j, rfl, hj, rfl, H⟩ := hrel
          clear HG
          by_cases hlt : j < 4
          · have hjI : (0 : Int) ≤ (j : Int) ∧ (j : Int) < 4 := by omega
            have hj32 : (j : Int) < 32 := by omega
            obtain ⟨ab, ao, haa, hab, hax, hac⟩ := (HI.out.below (Nat.le_refl _) H.out.bel).one (v := Value.int .u64) (fun _ => rfl) (i := j) hlt
            subst haa
            obtain ⟨r0, r1, r2, r3, rl⟩ := c4_block H.out.box
            have hif' := own_inU (B := b + 1) (g := gi) (c := ci) (L := i4 l j) (w := wr) (by have := H.out.i; rw [i4_len] at this; exact this) (i4_ok HU.out j)
            obtain ⟨ib, io, hia, hib, _, hic⟩ := hif'.one (v := Value.int .u64) (fun _ => rfl) (i := j) (by omega)
            simp only [Option.some.injEq, Addr.mk.injEq, and_true] at hia
            obtain ⟨rfl, rfl⟩ := hia
            simp only [Nat.zero_add] at hic
            have hfz : wr.frozen? ⟨gi, j, none⟩ = false := by
              rcases H.out.i.2 with ⟨q, _⟩ | ⟨g, cap', cur, q, _, hg, _⟩
              · cases q
              · cases q; exact fz_block hg j
            obtain ⟨X1, hX1⟩ : ∃ X1, X1 = wr.setCell ⟨gi, j, none⟩ (.int .u64 (l.getD j 0)) := ⟨_, rfl⟩
            have H1 : Hid (NwA (b + 1) w X1 b (.slice (some ⟨gu, 0, none⟩) 32 cu) (.slice (some ⟨gl, 0, none⟩) 32 cl) (.slice (some ⟨gi, 0, none⟩) 32 ci) (.slice (some ⟨gp, 0, none⟩) 32 cp) (b4 32) (b4 32) (i4 l (j + 1)) Pz) := by
              rw [hX1, ← i4_set l j (by omega)]
              have hh := H.out
              have e : (32 : Nat) = (i4 l j).length := (i4_len l j).symm
              have h2 := NwA.setI (gi := gi) (ci := ci) (by rw [← e]; exact hh) j (l.getD j 0)
              rw [← e] at h2
              exact h2
            clear H hif' hax
            generalize l.getD j 0 = y at hac hX1
            generalize (i4 l j).getD j 0 = z at hic
            go_wp2
            rw [← hX1]
            go_roundg (4 - (j + 1))
            case measure => omega
            case rel => exact ⟨j + 1, by go_num, by omega, rfl, H1⟩
          · obtain rfl : j = 4 := by omega
            obtain ⟨w8, hw8⟩ : ∃ w8, w8 = wr := ⟨_, rfl⟩
            rw [← hw8] at H ⊢
            clear hw8 hj hlt
            have HT : Hid (gu < w8.heap.size ∧ gl < w8.heap.size ∧ gi < w8.heap.size ∧ gp < w8.heap.size ∧ b < w8.heap.size) := ⟨(H.out.u.lt gu rfl).2, (H.out.l.lt gl rfl).2, (H.out.i.lt gi rfl).2, (H.out.p.lt gp rfl).2, lt_of_block H.out.box⟩
            go_wp2
            go_loopg [73] 4 (fun kx s wr => ∃ (k : Nat) (P : List Pr3), s = .int .i64 k ∧ k ≤ 4 ∧ kx = 4 - k ∧ Hid (NwA (b + 1) w wr b (.slice (some ⟨gu, 0, none⟩) 32 cu) (.slice (some ⟨gl, 0, none⟩) 32 cl) (.slice (some ⟨gi, 0, none⟩) 32 ci) (.slice (some ⟨gp, 0, none⟩) 32 cp) (b4 32) (b4 32) (i4 l 4) P ∧ LsD w8.heap.size wr l P k ∧ P.length = 32 ∧ (∀ x ∈ P, x.ok) ∧ w8.heap.size ≤ wr.heap.size))
            case atStart => exact ⟨0, Pz, rfl, Nat.zero_le _, rfl, (⟨H.out, fun n hn => absurd hn (Nat.not_lt_zero _), HPz.out.1, HPz.out.2, Nat.le_refl _⟩ : _ ∧ LsD w8.heap.size w8 l Pz 0 ∧ _ ∧ _ ∧ w8.heap.size ≤ w8.heap.size)⟩
            case round =>
              obtain ⟨k, P, rfl, hk, rfl, HQ⟩ := hrel
              clear H
              by_cases hlt : k < 4
              · have hkI : (0 : Int) ≤ (k : Int) ∧ (k : Int) < 4 := by omega
                obtain ⟨wo, hwo⟩ : ∃ wo, wo = wr := ⟨_, rfl⟩
                rw [← hwo] at HQ ⊢
                clear hwo
                obtain ⟨ab, ao, haa, hab, hax, hac⟩ := (HI.out.below (Nat.le_refl _) HQ.out.1.bel).one (v := Value.int .u64) (fun _ => rfl) (i := k) hlt
                subst haa
                obtain ⟨y, hy⟩ : ∃ y, y = l.getD k 0 := ⟨_, rfl⟩
                have HY : Hid (y = l.getD k 0) := hy
                rw [← hy] at hac
                obtain ⟨Y0, hY0⟩ : ∃ Y0, Y0 = wo.alloc (.cells #[.int .u64 y, .int .i64 (-1), .slice none 0 0] 140) := ⟨_, rfl⟩
                have H4 : Hid (In4 wo Y0 y (.slice none 0 0) l k 0) := by rw [hY0]; exact In4.start wo y l k
                clear hax hy
                go_upto_region 22 with fail
                rw [← hY0]
                clear hY0 hac hab
                go_wp2
                go_loopg [11, 12] 3 (fun kx x s wr => ∃ (j : Nat) (vS : Value), x = .int .u64 (l.getD (itn l k j).toNat 0) ∧ s = .int .i64 j ∧ j ≤ 3 ∧ kx = 3 - j ∧ Hid (In4 wo wr y vS l k j))
                case atStart => exact ⟨0, _, by rw [HY.out]; simp [itn], rfl, Nat.zero_le _, rfl, H4⟩
                case round =>
                  obtain ⟨j, vS, rfl, rfl, hj, rfl, H⟩ := hrel
                  clear H4
                  by_cases hlt3 : j < 3
                  · have hjI : (0 : Int) ≤ (j : Int) ∧ (j : Int) < 3 := by omega
                    obtain ⟨x, hx⟩ : ∃ x, x = l.getD (itn l k j).toNat 0 := ⟨_, rfl⟩
                    have hxp : 0 ≤ x ∧ x ≤ 18446744073709551615 := by rw [hx]; exact plc_u6 (HU.out _)
                    have hnx : bhF l x 4 = itn l k (j + 1) := by rw [hx]; rfl
                    rw [← hx]
                    have HXP : Hid (0 ≤ x ∧ x ≤ 18446744073709551615) := hxp
                    have HBW : Hid (Below w.heap.size w wr) := HQ.out.1.bel.trans (H.out.bel.mono HQ.out.1.bel.size)
                    have hrg := itn_rng HN.out (n := (k : Int)) hkI.1 hkI.2 (j + 1)
                    obtain ⟨m, hm⟩ : ∃ m : Nat, itn l k (j + 1) = m := ⟨(itn l k (j + 1)).toNat, by omega⟩
                    have HM : Hid ((m : Int) = itn l k (j + 1) ∧ bhF l x 4 = m) := ⟨hm.symm, by rw [hnx, hm]⟩
                    have hm4 : m < 4 := by omega
                    have hmI : (0 : Int) ≤ (m : Int) ∧ (m : Int) < 4 := by omega
                    clear hx hxp hnx hrg hm
                    go_wp2_with fail
                    refine (rbehind_r (some ⟨ab, ao, none⟩) cap l x wr (HI.out.below (Nat.le_refl _) HBW.out) HXP.out).mono ?_
                    rintro e w3 ⟨rfl, hb3⟩
                    rw [HM.out.2]
                    have H3 : Hid (In4 wo w3 y vS l k j ∧ Below w.heap.size w w3) := ⟨H.out.below hb3, HBW.out.trans (hb3.mono HBW.out.size)⟩
                    clear hb3 H HBW
                    have HA : Hid (In4 wo (w3.alloc (.cells #[.int .i64 m] 3)) y vS l k j) := H3.out.1.below (below_one _ _)
                    obtain ⟨r0, r1, r2, rl⟩ := c3_block H3.out.1.box
                    have HS1 : Hid (Src Tryz.prog 1 24 (.slice (some ⟨w3.heap.size, 0, none⟩) 1 1) 1 [.int .i64 m] (w3.alloc (.cells #[.int .i64 m] 3))) := src_one Tryz.underlying24 _ rfl
                    go_wp2_with (at_builtin; refine wpList_own_append _ rfl _ _ 24 24 rfl (wo.heap.size + 1) 3 i0 _ 8 Tryz.underlying24 hif hz0 hz1 hz2 rfl _ _ _ rfl HA.out.row _ 1 _ rfl HS1.out ?c3 ?c4 ?c5 ?_)
                    case c3 => unfold maxLen; omega
                    case c4 => omega
                    case c5 => simp; omega
                    intro v' w4 ha
                    obtain ⟨a1, k1, hv1⟩ := ha.shape
                    have hbx : w4.heap[wo.heap.size]? = _ := (ha.grown.block wo.heap.size (by simp; omega) (fun e => by have := (HA.out.row.lt _ e.symm).1; omega)).trans HA.out.box
                    have f0 := fz_block hbx 2
                    have HBW : Hid (Below w.heap.size w (w4.setCell ⟨wo.heap.size, 2, none⟩ v')) := HQ.out.1.bel.trans ((HA.out.app HM.out.1 ha).bel.mono HQ.out.1.bel.size)
                    obtain ⟨X1, hX1⟩ : ∃ X1, X1 = w4.setCell ⟨wo.heap.size, 2, none⟩ v' := ⟨_, rfl⟩
                    have H1 : Hid (In4 wo X1 y v' l k (j + 1)) := by rw [hX1]; exact HA.out.app HM.out.1 ha
                    rw [← hX1] at HBW
                    subst hv1
                    clear ha HA HS1 r0 r1 r2 rl H3
                    obtain ⟨r0, r1, r2, rl⟩ := c3_block hbx
                    clear hbx
                    go_upto_region 28 with fail
                    rw [← hX1]
                    clear hX1 f0 r0 r1 r2 rl
                    obtain ⟨b1, o1, hh1, hb1, _, hc1⟩ := (HI.out.below (Nat.le_refl _) HBW.out).one (v := Value.int .u64) (fun _ => rfl) (i := m) hm4
                    simp only [Option.some.injEq, Addr.mk.injEq, and_true] at hh1
                    obtain ⟨rfl, rfl⟩ := hh1
                    have HE : Hid (l.getD m 0 = l.getD (itn l k (j + 1)).toNat 0) := by show l.getD m 0 = _; rw [← HM.out.1]; simp
                    generalize l.getD m 0 = x2 at hc1 HE
                    clear HBW
                    go_wp2
                    go_roundg (3 - (j + 1))
                    case measure => omega
                    case rel => exact ⟨j + 1, _, by rw [HE.out], by go_num, by omega, rfl, H1⟩
                  · obtain rfl : j = 3 := by omega
                    obtain ⟨w9, hw9⟩ : ∃ w9, w9 = wr := ⟨_, rfl⟩
                    rw [← hw9] at H ⊢
                    clear hw9
                    obtain ⟨g5, c5, hv5, hg5, hg5'⟩ := own_sl H.out.row (by omega)
                    subst hv5
                    have hin : InIn w9 (some ⟨g5, 0, none⟩) 3 (lst l k 3) := in_of_own H.out.row (lst_ok HN.out hkI.1 hkI.2 3) (by omega)
                    obtain ⟨b5, o5, hh5, hb5, _, hc5⟩ := hin.one (v := Value.int .i64) (fun _ => rfl) (i := 2) (by omega)
                    simp only [Option.some.injEq, Addr.mk.injEq, and_true] at hh5
                    obtain ⟨rfl, rfl⟩ := hh5
                    obtain ⟨z, hz⟩ : ∃ z, z = itn l k 3 := ⟨_, rfl⟩
                    have hc5' : w9.cell? ⟨g5, 2, none⟩ = some (.int .i64 z) := by rw [hz]; simpa [lst] using hc5
                    clear hc5
                    have hcap := own_cap H.out.row
                    obtain ⟨r0, r1, r2, rl⟩ := c3_block H.out.box
                    have f0 := fz_block H.out.box 1
                    obtain ⟨X1, hX1⟩ : ∃ X1, X1 = w9.setCell ⟨wo.heap.size, 1, none⟩ (.int .i64 z) := ⟨_, rfl⟩
                    have H1 : Hid (X1.heap[wo.heap.size]? = some (.cells #[.int .u64 y, .int .i64 z, .slice (some ⟨g5, 0, none⟩) 3 c5] 140 (0, 0)) ∧ Below wo.heap.size wo X1 ∧ InIn X1 (some ⟨g5, 0, none⟩) 3 (lst l k 3) ∧ z = itn l k 3 ∧ (3 ≤ c5 ∧ c5 ≤ 9223372036854775807) ∧ wo.heap.size < g5) := by
                      rw [hX1]
                      exact ⟨by simpa using bx_set (j := 1) H.out.box (.int .i64 z), H.out.bel.setCell (Nat.le_refl _) _, hin.setCell (fun x hx => by cases hx; show g5 ≠ wo.heap.size; omega) _, hz, hcap, by omega⟩
                    clear hin hz H hg5 hcap
                    go_upto_region 30 with fail
                    rw [← hX1]
                    clear hX1 r0 r1 r2 rl f0 hc5' hb5 hg5'
                    obtain ⟨r0, r1, r2, rl⟩ := c3_block H1.out.1
                    have HN1 := HQ.out.1.below H1.out.2.1
                    obtain ⟨t0, t1, t2, t3, tl⟩ := c4_block HN1.box
                    have hP32 := HQ.out.2.2.1
                    have hpr : X1.ownsRow (b + 1) 140 3 (.slice (some ⟨gp, 0, none⟩) 32 cp) 32 (pl3 P) := by have := HN1.p; rw [hP32] at this; exact this
                    obtain ⟨pb, po, hpp, hpl, hpc⟩ := (own_inP hpr HQ.out.2.2.2.1).2.2.resolve_left (by omega)
                    simp only [Option.some.injEq, Addr.mk.injEq, and_true] at hpp
                    obtain ⟨rfl, rfl⟩ := hpp
                    have p0 := (hpc k (by omega)).2 0 (by omega)
                    have p1 := (hpc k (by omega)).2 1 (by omega)
                    have p2 := (hpc k (by omega)).2 2 (by omega)
                    simp only [Nat.zero_add, Nat.add_zero] at p0 p1 p2
                    generalize P.getD k pr30 = pk at p0 p1 p2
                    replace p0 : X1.cell? ⟨gp, k * 3, none⟩ = some (.int .u64 pk.id) := p0
                    replace p1 : X1.cell? ⟨gp, k * 3 + 1, none⟩ = some (.int .i64 pk.pred) := p1
                    replace p2 : X1.cell? ⟨gp, k * 3 + 2, none⟩ = some (.slice pk.a pk.len pk.cap) := p2
                    have f0 := own_fz hpr (k * 3)
                    have f1 := own_fz hpr (k * 3 + 1)
                    have f2 := own_fz hpr (k * 3 + 2)
                    obtain ⟨X2, hX2⟩ : ∃ X2, X2 = ((X1.setCell ⟨gp, k * 3, none⟩ (.int .u64 y)).setCell ⟨gp, k * 3 + 1, none⟩ (.int .i64 z)).setCell ⟨gp, k * 3 + 2, none⟩ (.slice (some ⟨g5, 0, none⟩) 3 c5) := ⟨_, rfl⟩
                    have H2 : Hid (NwA (b + 1) w X2 b (.slice (some ⟨gu, 0, none⟩) 32 cu) (.slice (some ⟨gl, 0, none⟩) 32 cl) (.slice (some ⟨gi, 0, none⟩) 32 ci) (.slice (some ⟨gp, 0, none⟩) 32 cp) (b4 32) (b4 32) (i4 l 4) (P.set k ⟨y, z, some ⟨g5, 0, none⟩, 3, c5⟩) ∧ LsD w8.heap.size X2 l (P.set k ⟨y, z, some ⟨g5, 0, none⟩, 3, c5⟩) (k + 1) ∧ (P.set k ⟨y, z, some ⟨g5, 0, none⟩, 3, c5⟩).length = 32 ∧ (∀ x ∈ P.set k ⟨y, z, some ⟨g5, 0, none⟩, 3, c5⟩, x.ok) ∧ w8.heap.size ≤ X2.heap.size) := by
                      have hT := HT.out.2.2.2.1
                      have hsz : w8.heap.size ≤ X1.heap.size := Nat.le_trans HQ.out.2.2.2.2 H1.out.2.1.size
                      have hgg := H1.out.2.2.2.2.2
                      have hwz := HQ.out.2.2.2.2
                      refine ⟨?_, ?_, by rw [List.length_set]; exact hP32, fun x hx => ?_, by rw [hX2]; simp [World.setCell]; exact hsz⟩
                      · have q := NwA.set3 (gp := gp) (cp := cp) (by rw [hP32]; exact HN1) (by rw [hP32]; omega : k < P.length) ⟨y, z, some ⟨g5, 0, none⟩, 3, c5⟩
                        rw [hP32] at q
                        rw [hX2]; exact q
                      · have d1 : LsD w8.heap.size X1 l P k := HQ.out.2.1.below H1.out.2.1
                        have d2 := d1.step (by rw [hP32]; omega) H1.out.2.2.1 (by omega : w8.heap.size ≤ g5) H1.out.2.2.2.2.1
                        rw [← HY.out, ← H1.out.2.2.2.1] at d2
                        rw [hX2]
                        exact ((d2.set hT _ _).set hT _ _).set hT _ _
                      · rcases List.mem_or_eq_of_mem_set hx with q | q
                        · exact HQ.out.2.2.2.1 x q
                        · rw [q]
                          refine pr_ok (by rw [HY.out]; exact HU.out k) (by rw [H1.out.2.2.2.1]; exact itn_rng HN.out hkI.1 hkI.2 3)
                    have hk32 : (k : Int) < 32 := by omega
                    clear HQ H1 HN1 hpr hpc hP32
                    go_wp2
                    rw [← hX2]
                    go_roundg (4 - (k + 1))
                    case measure => omega
                    case rel => exact ⟨k + 1, _, by go_num, by omega, rfl, H2⟩
              · obtain rfl : k = 4 := by omega
                obtain ⟨w10, hw10⟩ : ∃ w10, w10 = wr := ⟨_, rfl⟩
                rw [← hw10] at HQ ⊢
                clear hw10
                have hv := NwA.toV HC.out HS.out.1 HS.out.2 HU.out HQ.out.2.2.1 HQ.out.2.2.2.1 HQ.out.1 HQ.out.2.1
                obtain ⟨t0, t1, t2, t3, tl⟩ := c4_block HQ.out.1.box
                obtain ⟨s0, s1, s2, s3, sl⟩ := c4_block HQ.out.1.res
                have sf := fz_block HQ.out.1.res
                have HE : Hid _ := hv.off (w' := set4 w10 w.heap.size (.slice (some ⟨gu, 0, none⟩) 32 cu) (.slice (some ⟨gl, 0, none⟩) 32 cl) (.slice (some ⟨gi, 0, none⟩) 32 ci) (.slice (some ⟨gp, 0, none⟩) 32 cp)) (by rw [set4_size]; exact Nat.le_refl _) (off_set4 HQ.out.1.res ⟨_, _, _, rfl⟩ ⟨_, _, _, rfl⟩ ⟨_, _, _, rfl⟩ ⟨_, _, _, rfl⟩ _ _ _ _)
                have HB : Hid (Below w.heap.size w (set4 w10 w.heap.size (.slice (some ⟨gu, 0, none⟩) 32 cu) (.slice (some ⟨gl, 0, none⟩) 32 cl) (.slice (some ⟨gi, 0, none⟩) 32 ci) (.slice (some ⟨gp, 0, none⟩) 32 cp))) := set4_below HQ.out.1.bel (p := w.heap.size) (by omega) _ _ _ _
                clear hv HQ
                go_wp2
                refine bodyPost_ret (v := .tuple #[.agg #[.slice (some ⟨gu, 0, none⟩) 32 cu, .slice (some ⟨gl, 0, none⟩) 32 cl, .slice (some ⟨gi, 0, none⟩) 32 ci, .slice (some ⟨gp, 0, none⟩) 32 cp], .int .i64 0]) (by simp [results, Tryz.results45, go_sem, s0, s1, s2, s3]) rfl ⟨.inr ⟨S, _, HS.out.1, HS.out.2, HS4.out, rfl, HE.out⟩, HB.out⟩
end Go.Proofs.YtmajlldfiiokoaaGreatDoor
