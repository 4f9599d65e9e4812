/- The document's trees: Depth, Nodes, Children. -/
import Derived.Test.YtefaigdanoninaaDoorTrFit
namespace Go.Proofs.YtefaigdanoninaaDoor
open Go.ChangeShapes Go.WideShapes Go.ChangeAt Go.RowKit Go.Deep
open Go.ChangeMaps (setBlock)
set_option linter.unusedVariables false

/-- A row of ints of one's own that grows. -/
structure Gt (w wr : World) (v : Value) (l : List Int) : Prop where
  row : wr.ownsRow w.heap.size 3 1 v l.length (l.map cellI)
  bel : Below w.heap.size w wr
theorem Gt.below {w wr w' : World} {v : Value} {l : List Int} (h : Gt w wr v l) (hb : Below wr.heap.size wr w') : Gt w w' v l :=
  ⟨row_at h.row (fun z hz => hb.block _ ((World.ownsRow.lt h.row z hz).2)), h.bel.trans (hb.mono h.bel.size)⟩
theorem Gt.app {w wr w' : World} {v v' : Value} {l : List Int} {y : Int} (h : Gt w wr v l) (ha : Appended w.heap.size 3 wr w' v v' (l.length + 1) (l.map cellI ++ [cellI y])) : Gt w w' v' (l ++ [y]) := by
  have hg := ha.grown
  refine ⟨by rw [List.map_append, List.length_append]; exact ha.row, h.bel.grown hg h.bel.size (fun k hk => ?_)⟩
  exact (World.ownsRow.lt h.row k hk).1
theorem Gt.start (w : World) : Gt w (w.alloc (.cells #[] 3)) (.slice (some ⟨w.heap.size, 0, none⟩) 0 0) [] :=
  ⟨⟨rfl, .inr ⟨w.heap.size, 0, #[], rfl, Nat.le_refl _, heap_alloc_new w _, Nat.le_refl _, by unfold maxLen; omega, rfl, rfl⟩⟩, below_one _ _⟩
theorem Gt.sl {w wr : World} {a : Option Addr} {n c : Nat} {l : List Int} (h : Gt w wr (.slice a n c) l) (hl : l.length = n) (hok : ∀ x ∈ l, i64 x) (hn : n ≤ 100000) : InIn wr a n l := by
  subst hl
  exact in_of_own h.row hok (by omega)

/-- The document's tree, in memory: who tells whom by addresses. -/
structure RtV (w : World) (t : Tr) (a : Option Addr) (N : Nat) : Prop where
  row : ∃ ups, InIn w a N ups ∧ ∀ k : Nat, k < N → ups.getD k 0 = (lookI t.up k).getD (-1)
  pos : ∀ k v, lookI t.up k = some v → 0 ≤ v ∧ 0 ≤ k ∧ k < N
  rot : t.root = -1 ∨ 0 ≤ t.root ∧ t.root < N
  len : t.up.length ≤ N
theorem RtV.below {w w' : World} {t : Tr} {a : Option Addr} {N : Nat} (h : RtV w t a N) (hb : Below w.heap.size w w') : RtV w' t a N := by
  obtain ⟨ups, h1, h2⟩ := h.row
  exact ⟨⟨ups, h1.below (Nat.le_refl _) hb, h2⟩, h.pos, h.rot, h.len⟩
/-- What lies at an address. -/
theorem RtV.at {w : World} {t : Tr} {a : Option Addr} {N : Nat} (h : RtV w t a N) {k : Nat} (hk : k < N) : ∃ b o, a = some ⟨b, o, none⟩ ∧ b < w.heap.size ∧ w.cell? ⟨b, o + k, none⟩ = some (.int .i64 ((lookI t.up k).getD (-1))) := by
  obtain ⟨ups, h1, h2⟩ := h.row
  obtain ⟨mb, mo, hmb, hml, _, hmc⟩ := h1.one (v := Value.int .i64) (fun _ => rfl) (i := k) hk
  exact ⟨mb, mo, hmb, hml, by rw [hmc, h2 k hk]⟩

set_option maxRecDepth 100000 in
set_option maxHeartbeats 2000000 in
theorem rdepth_any (t : Tr) (a : Option Addr) (N c : Nat) (n : Int) (w : World) (h : RtV w t a N) (hN : N ≤ 1000) :
    Calls Tryd.prog 12 #[.agg #[.int .i64 t.root, .slice a N c], .int .i64 n] w fun e w' => e = .returned (.int .i64 (t.depth n)) ∧ Below w.heap.size w w' := by
  obtain ⟨q, hq⟩ : ∃ q, q = w.heap.size := ⟨_, rfl⟩
  obtain ⟨W, hW⟩ : ∃ W, W = w.alloc (.cells #[.int .i64 t.root, .slice a N c] 32) := ⟨_, rfl⟩
  have hbW : Below w.heap.size w W := by rw [hW]; exact below_one _ _
  have c0 : W.cell? ⟨q, 0, none⟩ = some (.int .i64 t.root) := by rw [hW, hq]; exact World.cell?_alloc_new ..
  have c1 : W.cell? ⟨q, 1, none⟩ = some (.slice a N c) := by rw [hW, hq]; simp
  have cl := cell_block c0
  have H : Hid (RtV W t a N ∧ Below w.heap.size w W) := ⟨h.below hbW, hbW⟩
  have hrot := h.rot
  have HD0 : Hid (t.root ≠ -1 → t.depth n = t.dep (N + 1) 0 n) := fun hr => by
    unfold Tr.depth; rw [if_neg hr, dep_any (N + 1) n (by have := h.len; omega)]
  have HD1 : Hid (t.root = -1 → t.depth n = -1) := fun hr => by unfold Tr.depth; rw [if_pos hr]
  clear h hbW
  generalize t.depth n = dd at HD0 HD1 ⊢
  obtain ⟨root, hroot⟩ : ∃ r, r = t.root := ⟨_, rfl⟩
  rw [← hroot] at c0 hrot HD0 HD1 hW ⊢
  have HRR : Hid (root = t.root) := hroot
  clear hroot
  go_enter Tryd.func12, Tryd.ntmps12
  go_upto_region 1 with fail
  rw [← hW]
  try rw [← hq]
  clear hW hq
  by_cases hr : root < 0
  · have HE : Hid (dd = -1) := HD1.out (by omega)
    clear HD0 HD1
    go_wp2
    go_ret
    exact ⟨ret_i HE.out.symm, H.out.2⟩
  · have HE : Hid (dd = t.dep (N + 1) 0 n) := HD0.out (by omega)
    clear HD0 HD1 hrot
    go_wp2
    go_loopg [1, 5] (N + 1) (fun kx nv s wr => ∃ (j : Nat) (m : Int), s = .int .i64 j ∧ nv = .int .i64 m ∧ j ≤ N + 1 ∧ kx = N + 1 - j ∧ wr = W ∧ Hid (dd = t.dep (N + 1 - j) j m))
    case atStart => exact ⟨0, n, rfl, rfl, Nat.zero_le _, rfl, rfl, HE.out⟩
    case round =>
      obtain ⟨j, m, rfl, rfl, hj, rfl, hwr, HB⟩ := hrel
      subst wr
      by_cases hlt : j < N + 1
      · have hltI : (j : Int) ≤ (N : Int) := by omega
        have HS : Hid (dd = if m = t.root then (j : Int) else match lookI t.up m with | none => -1 | some v => t.dep (N + 1 - (j + 1)) (j + 1) v) := by
          have := HB.out
          rw [show N + 1 - j = (N + 1 - (j + 1)) + 1 by omega] at this
          exact this
        by_cases hm : m = root
        · have e2 : (m == root) = true := by simpa using hm
          have HF : Hid (dd = (j : Int)) := by have := HS.out; rw [if_pos (by rw [hm]; exact HRR.out)] at this; exact this
          clear hm
          go_wp2
          go_ret
          exact ⟨ret_i HF.out.symm, H.out.2⟩
        · have e2 : (m == root) = false := by simpa using hm
          have HS2 := HS.out
          rw [if_neg (by rw [← HRR.out]; exact hm)] at HS2
          have HS3 : Hid _ := HS2
          clear hm HS HS2
          by_cases h0 : m < 0
          · have HF : Hid (dd = -1) := by
              have := HS3.out
              cases hv : lookI t.up m with
              | none => rw [hv] at this; exact this
              | some v => have := (H.out.1.pos _ _ hv).2.1; omega
            clear HS3
            go_wp2
            go_ret
            exact ⟨ret_i HF.out.symm, H.out.2⟩
          · by_cases h1 : m < (N : Int)
            · obtain ⟨k, rfl⟩ : ∃ k : Nat, m = k := ⟨m.toNat, by omega⟩
              obtain ⟨mb, mo, hmb, hml, hmc⟩ := H.out.1.at (k := k) (by omega)
              subst hmb
              have hk0 : (0 : Int) ≤ (k : Int) := by omega
              cases hv : lookI t.up k with
              | none =>
                rw [hv] at hmc
                have HF : Hid (dd = -1) := by have := HS3.out; rw [hv] at this; exact this
                simp only [Option.getD_none] at hmc
                clear HS3 hv h0
                go_wp2
                go_ret
                exact ⟨ret_i HF.out.symm, H.out.2⟩
              | some v =>
                rw [hv] at hmc
                have HF : Hid (dd = t.dep (N + 1 - (j + 1)) (j + 1) v) := by have := HS3.out; rw [hv] at this; exact this
                simp only [Option.getD_some] at hmc
                have hv0 : ¬ v < 0 := by have := (H.out.1.pos _ _ hv).1; omega
                clear HS3 hv h0
                go_wp2
                go_roundg (N + 1 - (j + 1))
                case measure => omega
                case rel => exact ⟨j + 1, v, by go_num, rfl, by omega, rfl, rfl, HF.out⟩
            · have HF : Hid (dd = -1) := by
                have := HS3.out
                cases hv : lookI t.up m with
                | none => rw [hv] at this; exact this
                | some v => have := (H.out.1.pos _ _ hv).2.2; omega
              clear HS3
              go_wp2
              go_ret
              exact ⟨ret_i HF.out.symm, H.out.2⟩
      · obtain rfl : j = N + 1 := by omega
        have hltI : ¬ ((N + 1 : Nat) : Int) ≤ (N : Int) := by omega
        have HF : Hid (dd = -1) := by have := HB.out; simp [Tr.dep] at this; exact this
        go_wp2
        go_ret
        exact ⟨ret_i HF.out.symm, H.out.2⟩

/-- The addresses of which something holds, rising. -/
def selL (P : Nat → Bool) (j : Nat) : List Int := ((List.range j).filter P).map fun (k : Nat) => (k : Int)
theorem selL_succ (P : Nat → Bool) (j : Nat) : selL P (j + 1) = if P j then selL P j ++ [(j : Int)] else selL P j := by
  unfold selL
  rw [List.range_succ, List.filter_append]
  cases h : P j <;> simp [h]
theorem selL_mem (P : Nat → Bool) (j : Nat) (x : Int) : x ∈ selL P j ↔ ∃ k : Nat, k < j ∧ P k = true ∧ x = k := by
  unfold selL
  rw [List.mem_map]
  constructor
  · rintro ⟨k, hk, rfl⟩
    rw [List.mem_filter, List.mem_range] at hk
    exact ⟨k, hk.1, hk.2, rfl⟩
  · rintro ⟨k, h1, h2, rfl⟩
    exact ⟨k, by rw [List.mem_filter, List.mem_range]; exact ⟨h1, h2⟩, rfl⟩
theorem selL_rise (P : Nat → Bool) (j : Nat) : (selL P j).Pairwise (· < ·) := by
  induction j with
  | zero => exact List.Pairwise.nil
  | succ j ih =>
    rw [selL_succ]
    split
    · refine List.pairwise_append.2 ⟨ih, by simp, fun a ha b hb => ?_⟩
      obtain ⟨k, hk, _, rfl⟩ := (selL_mem P j a).1 ha
      simp at hb
      omega
    · exact ih
theorem selL_len (P : Nat → Bool) (j : Nat) : (selL P j).length ≤ j := by
  unfold selL
  rw [List.length_map]
  have := List.length_filter_le P (List.range j)
  simpa using this
theorem selL_i64 (P : Nat → Bool) {j : Nat} (hj : j ≤ 1000) : ∀ x ∈ selL P j, i64 x := fun x hx => by
  obtain ⟨k, hk, _, rfl⟩ := (selL_mem P j x).1 hx
  unfold i64; omega

/-- A slice of ints. -/
structure SlO (w : World) (v : Value) (l : List Int) : Prop where
  ex : ∃ b m d, v = .slice b m d ∧ InIn w b m l
set_option maxRecDepth 100000 in
set_option maxHeartbeats 2000000 in
theorem rchildren_any (t : Tr) (a : Option Addr) (N c : Nat) (n : Int) (w : World) (h : RtV w t a N) (hN : N ≤ 1000) (hn : 0 ≤ n) :
    Calls Tryd.prog 14 #[.agg #[.int .i64 t.root, .slice a N c], .int .i64 n] w fun e w' => (∃ v, e = .returned v ∧ ∃ l, SlO w' v l ∧ l.Pairwise (· < ·) ∧ (∀ x, x ∈ l ↔ lookI t.up x = some n)) ∧ Below w.heap.size w w' := by
  obtain ⟨i0, hif, hz0, hz1, hz2⟩ := info_of Tryd.infoInt
  obtain ⟨q, hq⟩ : ∃ q, q = w.heap.size := ⟨_, rfl⟩
  obtain ⟨root, hroot⟩ : ∃ r, r = t.root := ⟨_, rfl⟩
  rw [← hroot]
  obtain ⟨W0, hW0⟩ : ∃ W, W = w.alloc (.cells #[.int .i64 root, .slice a N c] 32) := ⟨_, rfl⟩
  obtain ⟨W, hW⟩ : ∃ W, W = W0.alloc (.cells #[] 3) := ⟨_, rfl⟩
  obtain ⟨p, hp⟩ : ∃ p, p = q + 1 := ⟨_, rfl⟩
  have hps : p = W0.heap.size := by rw [hp, hq, hW0]; simp
  have hb0 : Below w.heap.size w W0 := by rw [hW0]; exact below_one _ _
  have d1 : W0.cell? ⟨q, 1, none⟩ = some (.slice a N c) := by rw [hW0, hq]; simp
  have d0 : W0.cell? ⟨q, 0, none⟩ = some (.int .i64 root) := by rw [hW0, hq]; exact World.cell?_alloc_new ..
  have HPq : Hid (∃ P : Nat → Bool, P = fun (k : Nat) => decide (lookI t.up (k : Int) = some n)) := ⟨_, rfl⟩
  obtain ⟨P, hP⟩ := HPq.out
  have HP : Hid (∀ k, P k = decide (lookI t.up (k : Int) = some n)) := fun k => by rw [hP]
  have H : Hid (RtV W0 t a N ∧ Below w.heap.size w W0 ∧ q < W0.heap.size) := ⟨h.below hb0, hb0, cell_block d1⟩
  have HG : Hid (Gt W0 W (.slice (some ⟨p, 0, none⟩) 0 0) (selL P 0)) := by rw [hW, hps]; exact Gt.start W0
  have c1 := cell_grown d1 (show Below W0.heap.size W0 W by rw [hW]; exact below_one _ _)
  have cl := cell_block c1
  clear h hb0 d1 d0 hP HPq hps hroot
  go_enter Tryd.func14, Tryd.ntmps14
  go_upto_region 2 with fail
  rw [← hW0, ← hW]
  try rw [← hq]
  try rw [← hp]
  clear hW0 hW hq hp
  go_wp2
  go_loopg [5, 11] N (fun kx v s wr => ∃ (j : Nat) (b : Option Addr) (m d : Nat), s = .int .i64 j ∧ v = .slice b m d ∧ j ≤ N ∧ kx = N - j ∧ m ≤ j ∧ Hid (Gt W0 wr (.slice b m d) (selL P j) ∧ (selL P j).length = m ∧ wr.cell? ⟨q, 1, none⟩ = some (.slice a N c)))
  case atStart => exact ⟨0, _, 0, 0, rfl, rfl, Nat.zero_le _, rfl, Nat.le_refl _, ⟨HG.out, rfl, c1⟩⟩
  case round =>
    obtain ⟨j, b, m, d, rfl, rfl, hj, rfl, hmj, HB⟩ := hrel
    have f1 := HB.out.2.2
    have fl := cell_block f1
    by_cases hlt : j < N
    · have hltI : (j : Int) < (N : Int) := by omega
      have hj0 : (0 : Int) ≤ (j : Int) := by omega
      obtain ⟨mb, mo, hmb, hml, hmc⟩ := (H.out.1.below HB.out.1.bel).at (k := j) hlt
      subst hmb
      have HS := selL_succ P j
      by_cases hx : lookI t.up j = some n
      · have hPj : P j = true := by rw [HP.out]; simpa using hx
        rw [if_pos hPj] at HS
        rw [hx] at hmc
        simp only [Option.getD_some] at hmc
        have HSS : Hid (selL P (j + 1) = selL P j ++ [(j : Int)]) := HS
        have e1 : (n == n) = true := by simp
        clear HS hx hPj
        have HA : Hid ((wr.alloc (.cells #[.int .i64 j] 3)).ownsRow W0.heap.size 3 1 (.slice b m d) m ((selL P j).map cellI)) := by
          have := (HB.out.1.below (below_one wr (.cells #[.int .i64 j] 3))).row
          rw [HB.out.2.1] at this
          exact this
        have HSz : Hid (W0.heap.size ≤ wr.heap.size) := HB.out.1.bel.size
        go_wp2_with (at_builtin; go_loud (refine wpList_own_append _ rfl _ _ 22 22 rfl W0.heap.size 3 i0 _ 8 Tryd.underlying22 hif hz0 hz1 hz2 rfl _ _ _ rfl HA.out _ 1 [cellI j] rfl (src_oneT wr j) ?c3 ?c4 ?c5 ?_))
        case c3 => unfold maxLen; omega
        case c4 => omega
        case c5 => have := HSz.out; simp; omega
        intro v' w6 ha
        obtain ⟨a', c', rfl⟩ := ha.shape
        have f16 : w6.cell? ⟨q, 1, none⟩ = some (.slice (some ⟨mb, mo, none⟩) N c) := by
          have g1 : (wr.alloc (.cells #[.int .i64 j] 3)).cell? ⟨q, 1, none⟩ = some (.slice (some ⟨mb, mo, none⟩) N c) := cell_grown f1 (below_one _ _)
          refine (World.cell?_of_block ?_).trans g1
          refine ha.grown.block q (cell_block g1) (fun e => ?_)
          have h1 := (World.ownsRow.lt HB.out.1.row q e.symm).1
          have h2 := H.out.2.2
          omega
        have H6 : Hid (Gt W0 w6 (.slice a' (m + 1) c') (selL P (j + 1)) ∧ (selL P (j + 1)).length = m + 1 ∧ w6.cell? ⟨q, 1, none⟩ = some (.slice (some ⟨mb, mo, none⟩) N c)) := by
          have hm := HB.out.2.1
          rw [HSS.out]
          refine ⟨(HB.out.1.below (below_one wr (.cells #[.int .i64 j] 3))).app (by rw [hm]; exact ha), by simp [hm], f16⟩
        clear ha HA HSz f16
        go_wp2
        go_roundg (N - (j + 1))
        case measure => omega
        case rel => exact ⟨j + 1, a', m + 1, c', by go_num, rfl, by omega, rfl, by omega, H6.out⟩
      · have hPj : ¬ P j = true := by rw [HP.out]; simpa using hx
        rw [if_neg hPj] at HS
        obtain ⟨y, hy⟩ : ∃ y, y = (lookI t.up j).getD (-1) := ⟨_, rfl⟩
        rw [← hy] at hmc
        have e1 : (y == n) = false := by
          cases hv : lookI t.up j with
          | none => rw [hv] at hy; simp at hy; simp; omega
          | some v => rw [hv] at hy; simp at hy; simp; intro e; exact hx (by rw [hv, ← hy, e])
        have H6 : Hid (Gt W0 wr (.slice b m d) (selL P (j + 1)) ∧ (selL P (j + 1)).length = m ∧ wr.cell? ⟨q, 1, none⟩ = some (.slice (some ⟨mb, mo, none⟩) N c)) := by rw [HS]; exact HB.out
        clear HS hx hPj hy
        go_wp2
        go_roundg (N - (j + 1))
        case measure => omega
        case rel => exact ⟨j + 1, b, m, d, by go_num, rfl, by omega, rfl, by omega, H6.out⟩
    · obtain rfl : j = N := by omega
      go_wp2
      go_ret
      refine ⟨⟨_, rfl, selL P j, ⟨b, m, d, rfl, HB.out.1.sl HB.out.2.1 (selL_i64 P hN) (by omega)⟩, selL_rise P j, fun x => ?_⟩, H.out.2.1.trans (HB.out.1.bel.mono H.out.2.1.size)⟩
      rw [selL_mem]
      constructor
      · rintro ⟨k, _, hk, rfl⟩
        rw [HP.out] at hk
        simpa using hk
      · intro hx
        have := H.out.1.pos _ _ hx
        exact ⟨x.toNat, by omega, by rw [HP.out, show ((x.toNat : Nat) : Int) = x by omega]; simpa using hx, by omega⟩

set_option maxRecDepth 100000 in
set_option maxHeartbeats 2000000 in
theorem rnodes_any (t : Tr) (a : Option Addr) (N c : Nat) (w : World) (h : RtV w t a N) (hN : N ≤ 1000) :
    Calls Tryd.prog 10 #[.agg #[.int .i64 t.root, .slice a N c]] w fun e w' => (∃ v, e = .returned v ∧ ∃ l, SlO w' v l ∧ l.Pairwise (· < ·) ∧ (∀ x, x ∈ l ↔ t.inT x)) ∧ Below w.heap.size w w' := by
  obtain ⟨i0, hif, hz0, hz1, hz2⟩ := info_of Tryd.infoInt
  obtain ⟨q, hq⟩ : ∃ q, q = w.heap.size := ⟨_, rfl⟩
  obtain ⟨root, hroot⟩ : ∃ r, r = t.root := ⟨_, rfl⟩
  rw [← hroot]
  obtain ⟨W0, hW0⟩ : ∃ W, W = w.alloc (.cells #[.int .i64 root, .slice a N c] 32) := ⟨_, rfl⟩
  obtain ⟨W, hW⟩ : ∃ W, W = W0.alloc (.cells #[] 3) := ⟨_, rfl⟩
  obtain ⟨p, hp⟩ : ∃ p, p = q + 1 := ⟨_, rfl⟩
  have hps : p = W0.heap.size := by rw [hp, hq, hW0]; simp
  have hb0 : Below w.heap.size w W0 := by rw [hW0]; exact below_one _ _
  have d1 : W0.cell? ⟨q, 1, none⟩ = some (.slice a N c) := by rw [hW0, hq]; simp
  have d0 : W0.cell? ⟨q, 0, none⟩ = some (.int .i64 root) := by rw [hW0, hq]; exact World.cell?_alloc_new ..
  have HPq : Hid (∃ P : Nat → Bool, P = fun (k : Nat) => ((lookI t.up (k : Int)).isSome || (k : Int) == t.root)) := ⟨_, rfl⟩
  obtain ⟨P, hP⟩ := HPq.out
  have HP : Hid (∀ k : Nat, P k = ((lookI t.up (k : Int)).isSome || (k : Int) == t.root)) := fun k => by rw [hP]
  have HRR : Hid (root = t.root) := hroot
  have H : Hid (RtV W0 t a N ∧ Below w.heap.size w W0 ∧ q < W0.heap.size) := ⟨h.below hb0, hb0, cell_block d1⟩
  have HG : Hid (Gt W0 W (.slice (some ⟨p, 0, none⟩) 0 0) (selL P 0)) := by rw [hW, hps]; exact Gt.start W0
  have c1 := cell_grown d1 (show Below W0.heap.size W0 W by rw [hW]; exact below_one _ _)
  have c0 := cell_grown d0 (show Below W0.heap.size W0 W by rw [hW]; exact below_one _ _)
  have cl := cell_block c1
  clear h hb0 d1 d0 hP HPq hps hroot
  go_enter Tryd.func10, Tryd.ntmps10
  go_upto_region 2 with fail
  rw [← hW0, ← hW]
  try rw [← hq]
  try rw [← hp]
  clear hW0 hW hq hp
  go_wp2
  go_loopg [3, 9] N (fun kx v s wr => ∃ (j : Nat) (b : Option Addr) (m d : Nat), s = .int .i64 j ∧ v = .slice b m d ∧ j ≤ N ∧ kx = N - j ∧ m ≤ j ∧ Hid (Gt W0 wr (.slice b m d) (selL P j) ∧ (selL P j).length = m ∧ wr.cell? ⟨q, 1, none⟩ = some (.slice a N c) ∧ wr.cell? ⟨q, 0, none⟩ = some (.int .i64 root)))
  case atStart => exact ⟨0, _, 0, 0, rfl, rfl, Nat.zero_le _, rfl, Nat.le_refl _, ⟨HG.out, rfl, c1, c0⟩⟩
  case round =>
    obtain ⟨j, b, m, d, rfl, rfl, hj, rfl, hmj, HB⟩ := hrel
    have f1 := HB.out.2.2.1
    have f0 := HB.out.2.2.2
    have fl := cell_block f1
    by_cases hlt : j < N
    · have hltI : (j : Int) < (N : Int) := by omega
      have hj0 : (0 : Int) ≤ (j : Int) := by omega
      obtain ⟨mb, mo, hmb, hml, hmc⟩ := (H.out.1.below HB.out.1.bel).at (k := j) hlt
      subst hmb
      have HS := selL_succ P j
      have HPj0 := HP.out j
      cases hv : lookI t.up j with
      | some v =>
        rw [hv] at hmc HPj0
        simp only [Option.getD_some] at hmc
        have hPj : P j = true := by rw [HPj0]; rfl
        rw [if_pos hPj] at HS
        have hv0 : 0 ≤ v := (H.out.1.pos _ _ hv).1
        have HSS : Hid (selL P (j + 1) = selL P j ++ [(j : Int)]) := HS
        clear HS hPj HPj0 hv
        have HA : Hid ((wr.alloc (.cells #[.int .i64 j] 3)).ownsRow W0.heap.size 3 1 (.slice b m d) m ((selL P j).map cellI)) := by
          have := (HB.out.1.below (below_one wr (.cells #[.int .i64 j] 3))).row
          rw [HB.out.2.1] at this
          exact this
        have HSz : Hid (W0.heap.size ≤ wr.heap.size) := HB.out.1.bel.size
        go_wp2_with (at_builtin; go_loud (refine wpList_own_append _ rfl _ _ 22 22 rfl W0.heap.size 3 i0 _ 8 Tryd.underlying22 hif hz0 hz1 hz2 rfl _ _ _ rfl HA.out _ 1 [cellI j] rfl (src_oneT wr j) ?c3 ?c4 ?c5 ?_))
        case c3 => unfold maxLen; omega
        case c4 => omega
        case c5 => have := HSz.out; simp; omega
        intro v' w6 ha
        obtain ⟨a', c', rfl⟩ := ha.shape
        have HQ : ∀ o u, wr.cell? ⟨q, o, none⟩ = some u → w6.cell? ⟨q, o, none⟩ = some u := fun o u hu => by
          have g1 := cell_grown hu (below_one wr (.cells #[.int .i64 j] 3))
          refine (World.cell?_of_block ?_).trans g1
          refine ha.grown.block q (cell_block g1) (fun e => ?_)
          have h1 := (World.ownsRow.lt HB.out.1.row q e.symm).1
          have h2 := H.out.2.2
          omega
        have H6 : Hid (Gt W0 w6 (.slice a' (m + 1) c') (selL P (j + 1)) ∧ (selL P (j + 1)).length = m + 1 ∧ w6.cell? ⟨q, 1, none⟩ = some (.slice (some ⟨mb, mo, none⟩) N c) ∧ w6.cell? ⟨q, 0, none⟩ = some (.int .i64 root)) := by
          have hm := HB.out.2.1
          rw [HSS.out]
          refine ⟨(HB.out.1.below (below_one wr (.cells #[.int .i64 j] 3))).app (by rw [hm]; exact ha), by simp [hm], HQ _ _ f1, HQ _ _ f0⟩
        clear ha HA HSz HQ
        go_wp2
        go_roundg (N - (j + 1))
        case measure => omega
        case rel => exact ⟨j + 1, a', m + 1, c', by go_num, rfl, by omega, rfl, by omega, H6.out⟩
      | none =>
        rw [hv] at hmc HPj0
        simp only [Option.getD_none] at hmc
        by_cases hr : (j : Int) = root
        · have hPj : P j = true := by rw [HPj0, ← HRR.out, hr]; simp
          rw [if_pos hPj] at HS
          have e1 : ((j : Int) == root) = true := by simpa using hr
          have HSS : Hid (selL P (j + 1) = selL P j ++ [(j : Int)]) := HS
          clear HS hPj HPj0 hv hr
          have HA : Hid ((wr.alloc (.cells #[.int .i64 j] 3)).ownsRow W0.heap.size 3 1 (.slice b m d) m ((selL P j).map cellI)) := by
            have := (HB.out.1.below (below_one wr (.cells #[.int .i64 j] 3))).row
            rw [HB.out.2.1] at this
            exact this
          have HSz : Hid (W0.heap.size ≤ wr.heap.size) := HB.out.1.bel.size
          go_wp2_with (at_builtin; go_loud (refine wpList_own_append _ rfl _ _ 22 22 rfl W0.heap.size 3 i0 _ 8 Tryd.underlying22 hif hz0 hz1 hz2 rfl _ _ _ rfl HA.out _ 1 [cellI j] rfl (src_oneT wr j) ?c3 ?c4 ?c5 ?_))
          case c3 => unfold maxLen; omega
          case c4 => omega
          case c5 => have := HSz.out; simp; omega
          intro v' w6 ha
          obtain ⟨a', c', rfl⟩ := ha.shape
          have HQ : ∀ o u, wr.cell? ⟨q, o, none⟩ = some u → w6.cell? ⟨q, o, none⟩ = some u := fun o u hu => by
            have g1 := cell_grown hu (below_one wr (.cells #[.int .i64 j] 3))
            refine (World.cell?_of_block ?_).trans g1
            refine ha.grown.block q (cell_block g1) (fun e => ?_)
            have h1 := (World.ownsRow.lt HB.out.1.row q e.symm).1
            have h2 := H.out.2.2
            omega
          have H6 : Hid (Gt W0 w6 (.slice a' (m + 1) c') (selL P (j + 1)) ∧ (selL P (j + 1)).length = m + 1 ∧ w6.cell? ⟨q, 1, none⟩ = some (.slice (some ⟨mb, mo, none⟩) N c) ∧ w6.cell? ⟨q, 0, none⟩ = some (.int .i64 root)) := by
            have hm := HB.out.2.1
            rw [HSS.out]
            refine ⟨(HB.out.1.below (below_one wr (.cells #[.int .i64 j] 3))).app (by rw [hm]; exact ha), by simp [hm], HQ _ _ f1, HQ _ _ f0⟩
          clear ha HA HSz HQ
          go_wp2
          go_roundg (N - (j + 1))
          case measure => omega
          case rel => exact ⟨j + 1, a', m + 1, c', by go_num, rfl, by omega, rfl, by omega, H6.out⟩
        · have e1 : ((j : Int) == root) = false := by simpa using hr
          have hPj : ¬ P j = true := by rw [HPj0, ← HRR.out, e1]; simp
          rw [if_neg hPj] at HS
          have H6 : Hid (Gt W0 wr (.slice b m d) (selL P (j + 1)) ∧ (selL P (j + 1)).length = m ∧ wr.cell? ⟨q, 1, none⟩ = some (.slice (some ⟨mb, mo, none⟩) N c) ∧ wr.cell? ⟨q, 0, none⟩ = some (.int .i64 root)) := by rw [HS]; exact HB.out
          clear HS hPj HPj0 hv hr
          go_wp2
          go_roundg (N - (j + 1))
          case measure => omega
          case rel => exact ⟨j + 1, b, m, d, by go_num, rfl, by omega, rfl, by omega, H6.out⟩
    · obtain rfl : j = N := by omega
      go_wp2
      go_ret
      refine ⟨⟨_, rfl, selL P j, ⟨b, m, d, rfl, HB.out.1.sl HB.out.2.1 (selL_i64 P hN) (by omega)⟩, selL_rise P j, fun x => ?_⟩, H.out.2.1.trans (HB.out.1.bel.mono H.out.2.1.size)⟩
      rw [selL_mem]
      unfold Tr.inT
      constructor
      · rintro ⟨k, hkj, hk, rfl⟩
        rw [HP.out] at hk
        simp only [Bool.or_eq_true, beq_iff_eq] at hk
        rcases hk with hk | hk
        · exact .inr (Option.isSome_iff_exists.1 hk)
        · exact .inl ⟨by omega, hk⟩
      · rintro (⟨h1, h2⟩ | ⟨v, hx⟩)
        · have := H.out.1.rot
          refine ⟨x.toNat, by omega, ?_, by omega⟩
          rw [HP.out, show ((x.toNat : Nat) : Int) = x by omega, h2]
          simp
        · have := H.out.1.pos _ _ hx
          exact ⟨x.toNat, by omega, by rw [HP.out, show ((x.toNat : Nat) : Int) = x by omega, hx]; rfl, by omega⟩
end Go.Proofs.YtefaigdanoninaaDoor
