/- The document's trees: Of. -/
import Derived.Test.YtefaigdanoninaaDoorTrRef
import Derived.Laws.OwnMore
namespace Go.Proofs.YtefaigdanoninaaDoor
open Go.ChangeShapes Go.WideShapes Go.ChangeAt Go.RowKit Go.Deep
open Go.ChangeMaps (setBlock)
set_option linter.unusedVariables false

/-- On the way: the box, and the row of who tells whom. -/
structure RoAt (w wr : World) (q B : Nat) (t : Tr) (a : Option Addr) (N c : Nat) (ups : List Int) : Prop where
  box : wr.heap[q]? = some (.cells #[.int .i64 t.root, .slice a N c] 32 (0, 0))
  row : wr.ownsRow B 3 1 (.slice a N c) N (ups.map cellI)
  val : ∀ k : Nat, k < N → ups.getD k 0 = (lookI t.up k).getD (-1)
  len : ups.length = N
  bel : Below w.heap.size w wr
  lo : w.heap.size < q ∧ q < B
  old : wr.heap[w.heap.size]? = some (.cells #[.int .i64 0, .slice none 0 0] 32 (0, 0))
section
variable {w wr : World} {q B : Nat} {t : Tr} {a : Option Addr} {N c : Nat} {ups : List Int}
theorem RoAt.ex (h : RoAt w wr q B t a N c ups) {k : Nat} (hk : k < N) : ∃ g, a = some ⟨g, 0, none⟩ ∧ B ≤ g ∧ g < wr.heap.size := by
  rcases h.row.2 with ⟨_, h0⟩ | ⟨g, cap, cur, hv, hb, hg, _⟩
  · omega
  · simp only [Value.slice.injEq] at hv
    exact ⟨g, hv.1, hb, lt_of_block hg⟩
theorem RoAt.cells (h : RoAt w wr q B t a N c ups) : wr.cell? ⟨q, 0, none⟩ = some (.int .i64 t.root) ∧ wr.cell? ⟨q, 1, none⟩ = some (.slice a N c) ∧ q < wr.heap.size ∧ ∀ o, wr.frozen? ⟨q, o, none⟩ = false :=
  ⟨by simp [World.cell?, h.box], by simp [World.cell?, h.box], lt_of_block h.box, fun o => by simp [World.frozen?, h.box]⟩
theorem RoAt.olds (h : RoAt w wr q B t a N c ups) : wr.cell? ⟨w.heap.size, 0, none⟩ = some (.int .i64 0) ∧ wr.cell? ⟨w.heap.size, 1, none⟩ = some (.slice none 0 0) ∧ w.heap.size < wr.heap.size ∧ ∀ o, wr.frozen? ⟨w.heap.size, o, none⟩ = false :=
  ⟨by simp [World.cell?, h.old], by simp [World.cell?, h.old], lt_of_block h.old, fun o => by simp [World.frozen?, h.old]⟩
theorem RoAt.at {g : Nat} (h : RoAt w wr q B t (some ⟨g, 0, none⟩) N c ups) {k : Nat} (hk : k < N) : wr.cell? ⟨g, k, none⟩ = some (.int .i64 ((lookI t.up k).getD (-1))) ∧ wr.frozen? ⟨g, k, none⟩ = false := by
  have hc := h.row.cells (g := g) rfl k (cellI (ups.getD k 0)) (by have := h.len; simp [List.getD, show k < ups.length by omega])
  rw [Addr.add_lit, Nat.zero_add] at hc
  rw [hc, h.val k hk]
  refine ⟨rfl, ?_⟩
  rcases h.row.2 with ⟨h', _⟩ | ⟨g', cap', cur, h', hb, hg, _⟩
  · simp at h'
  · simp only [Value.slice.injEq, Option.some.injEq, Addr.mk.injEq, and_true, true_and] at h'
    obtain ⟨rfl, rfl⟩ := h'
    simp [World.frozen?, hg]
theorem RoAt.root (h : RoAt w wr q B t a N c ups) (n : Int) : RoAt w (wr.setCell ⟨q, 0, none⟩ (.int .i64 n)) q B ⟨n, t.up⟩ a N c ups := by
  have hlo := h.lo
  refine ⟨by simpa using setCell_block h.box 0 (.int .i64 n), row_at h.row (fun z hz => Below.heap_setCell _ _ _ _ (fun e => ?_)), h.val, h.len, h.bel.setCell (p := ⟨q, 0, none⟩) (Nat.le_of_lt hlo.1) _, h.lo, (Below.heap_setCell _ _ _ _ (by simp; omega)).trans h.old⟩
  have := (World.ownsRow.lt h.row z hz).1
  simp at e
  omega
theorem RoAt.put {g : Nat} (h : RoAt w wr q B t (some ⟨g, 0, none⟩) N c ups) {k : Nat} (hk : k < N) (hn : lookI t.up k = none) (v : Int) : RoAt w (wr.setCell ⟨g, k, none⟩ (.int .i64 v)) q B ⟨t.root, t.up ++ [((k : Int), v)]⟩ (some ⟨g, 0, none⟩) N c (ups.set k v) := by
  obtain ⟨g', hg', hB, hgl⟩ := h.ex hk
  simp at hg'
  subst hg'
  have hs := h.row.stored k (.int .i64 v)
  have hlo := h.lo
  refine ⟨(Below.heap_setCell _ _ _ _ (by simp; omega)).trans h.box, ?_, fun j hj => ?_, by rw [List.length_set]; exact h.len, h.bel.setCell (p := ⟨g, k, none⟩) (by show _ ≤ g; omega) _, h.lo, (Below.heap_setCell _ _ _ _ (by simp; omega)).trans h.old⟩
  · have := hs.1
    rw [List.map_set]
    exact this
  · rw [lookI_snoc _ _ _ _ hn]
    have hl := h.len
    by_cases e : j = k
    · subst e
      rw [if_pos rfl]
      simp [List.getD, show j < ups.length by omega]
    · rw [if_neg (by omega), ← h.val j hj]
      simp [List.getD, List.getElem?_set_ne (Ne.symm e)]
theorem RoAt.app (h : RoAt w wr q B t a N c ups) (ht : t.up = []) (o : Obj) {w6 : World} {a' : Option Addr} {c' : Nat} (ha : Appended B 3 (wr.alloc o) w6 (.slice a N c) (.slice a' (N + 1) c') (N + 1) (ups.map cellI ++ [cellI (-1)])) :
    w6.heap[q]? = some (.cells #[.int .i64 t.root, .slice a N c] 32 (0, 0)) ∧ RoAt w (w6.setCell ⟨q, 1, none⟩ (.slice a' (N + 1) c')) q B t a' (N + 1) c' (ups ++ [-1]) := by
  have hg := ha.grown
  have hlo := h.lo
  have hql := lt_of_block h.box
  have hol := lt_of_block h.old
  have hne : ∀ b, b < B → some b ≠ Value.ownBlock (.slice a N c) := fun b hb e => by have := (World.ownsRow.lt h.row b e.symm).1; omega
  have hbx : w6.heap[q]? = some (.cells #[.int .i64 t.root, .slice a N c] 32 (0, 0)) := ((hg.block q (by simp; omega) (hne q hlo.2)).trans (Below.heap_alloc _ _ _ hql)).trans h.box
  have hod : w6.heap[w.heap.size]? = _ := ((hg.block w.heap.size (by simp; omega) (hne _ (by omega))).trans (Below.heap_alloc _ _ _ hol)).trans h.old
  have hbel : Below w.heap.size w w6 := (h.bel.alloc h.bel.size o).grown hg (h.bel.alloc h.bel.size o).size (fun k hk => by have := (World.ownsRow.lt h.row k hk).1; omega)
  refine ⟨hbx, ⟨by simpa using setCell_block hbx 1 (.slice a' (N + 1) c'), ?_, fun k hk => ?_, by simp [h.len], hbel.setCell (p := ⟨q, 1, none⟩) (Nat.le_of_lt hlo.1) _, h.lo, (Below.heap_setCell _ _ _ _ (by simp; omega)).trans hod⟩⟩
  · have hr : w6.ownsRow B 3 1 (.slice a' (N + 1) c') (N + 1) ((ups ++ [-1]).map cellI) := by rw [List.map_append]; exact ha.row
    refine row_at hr (fun z hz => Below.heap_setCell _ _ _ _ (fun e => ?_))
    have := (World.ownsRow.lt hr z hz).1
    simp at e
    omega
  · have hl := h.len
    rw [ht]
    by_cases e : k < N
    · have := h.val k e
      rw [ht] at this
      rw [← this]
      simp [List.getD, List.getElem?_append_left (show k < ups.length by omega)]
    · obtain rfl : k = N := by omega
      simp [List.getD, ← hl, lookI]
end

/-- What Of answers. -/
def RofR (e : Ending) (w' : World) (c : Int) (t : Tr) (N : Nat) : Prop :=
  (c ≠ 0 ∧ e = .returned (.tuple #[.agg #[.int .i64 0, .slice none 0 0], .int .i64 c])) ∨
  (c = 0 ∧ ∃ a d, e = .returned (.tuple #[.agg #[.int .i64 t.root, .slice a N d], .int .i64 0]) ∧ RtV w' t a N)
theorem of_codeT (nx : Int → Option Int) (ms : List Int) {j : Nat} {c : Int} {t : Tr} (h : ofT nx tr0 (ms.take j) = (c, t)) (hc : c ≠ 0) : (treeOf nx ms).1 = c := by
  have e2 : ofT nx tr0 ms = ofT nx tr0 (ms.take j) := by
    conv => lhs; rw [← List.take_append_drop j ms]
    exact of_stop nx _ _ _ (by rw [h]; exact hc)
  unfold treeOf
  rw [e2, h, if_pos hc]

set_option maxRecDepth 100000 in
set_option maxHeartbeats 8000000 in
theorem rof_any (w : World) (a : Option Addr) (N c : Nat) (l : List Int) (b : Option Addr) (m d : Nat) (ms : List Int) (hin : InIn w a N l) (hms : InIn w b m ms) (hN : N ≤ 12) (hm : m ≤ 1000) :
    Calls Tryd.prog 5 #[.slice a N c, .slice b m d] w fun e w' => RofR e w' (treeOf (nxL l) ms).1 (treeOf (nxL l) ms).2 N ∧ Below w.heap.size w w' := by
  obtain ⟨i0, hif, hz0, hz1, hz2⟩ := info_of Tryd.infoInt
  obtain ⟨q0, hq0⟩ : ∃ q, q = w.heap.size := ⟨_, rfl⟩
  obtain ⟨q, hq⟩ : ∃ q, q = q0 + 1 := ⟨_, rfl⟩
  obtain ⟨W1, hW1⟩ : ∃ W, W = w.alloc (.cells #[.int .i64 0, .slice none 0 0] 32) := ⟨_, rfl⟩
  obtain ⟨W2, hW2⟩ : ∃ W, W = W1.alloc (.cells #[.int .i64 (-1), .slice none 0 0] 32) := ⟨_, rfl⟩
  have s1 : W1.heap.size = q0 + 1 := by rw [hW1, hq0]; simp
  have s2 : W2.heap.size = q0 + 2 := by rw [hW2]; simp [s1]
  have b1 : Below w.heap.size w W1 := by rw [hW1]; exact below_one _ _
  have b2 : Below w.heap.size w W2 := b1.trans (by rw [hW2]; exact (below_one _ _).mono b1.size)
  have r0 : W2.heap[q0]? = some (.cells #[.int .i64 0, .slice none 0 0] 32 (0, 0)) := by
    rw [hW2, Below.heap_alloc _ _ _ (by omega), hW1, hq0]; exact heap_alloc_new w _
  have r1 : W2.heap[q]? = some (.cells #[.int .i64 (-1), .slice none 0 0] 32 (0, 0)) := by
    rw [hW2, hq, ← s1]; exact heap_alloc_new W1 _
  have H : Hid (InIn w a N l ∧ InIn w b m ms ∧ l.length = N ∧ ms.length = m) := ⟨hin, hms, hin.1, hms.1⟩
  have HW : Hid (Below w.heap.size w W2 ∧ W2.heap.size = q0 + 2 ∧ q = q0 + 1 ∧ q0 = w.heap.size ∧ W2.heap[q0]? = some (.cells #[.int .i64 0, .slice none 0 0] 32 (0, 0)) ∧ W2.heap[q]? = some (.cells #[.int .i64 (-1), .slice none 0 0] 32 (0, 0))) := ⟨b2, s2, hq, hq0, r0, r1⟩
  clear hin hms s1 s2 b1 b2 r0 r1
  go_enter Tryd.func5, Tryd.ntmps5
  go_upto_region 2 with fail
  rw [← hW1, ← hW2]
  try rw [← hq0]
  try rw [← hq]
  clear hW1 hW2 hq hq0
  have HR0 : Hid (RoAt w W2 q (q0 + 2) tr0 none 0 0 []) := ⟨HW.out.2.2.2.2.2, World.ownsRow_nil _ _ _ _, fun k hk => absurd hk (Nat.not_lt_zero _), rfl, HW.out.1, ⟨by have := HW.out.2.2; omega, by have := HW.out.2.2; omega⟩, by have := HW.out.2.2.2; rw [← this.1]; exact this.2.1⟩
  go_wp2
  go_loopg [13] N (fun kx s wr => ∃ (j : Nat) (a' : Option Addr) (c' : Nat) (ups : List Int), s = .int .i64 j ∧ j ≤ N ∧ kx = N - j ∧ Hid (RoAt w wr q (q0 + 2) tr0 a' j c' ups))
  case atStart => exact ⟨0, none, 0, [], rfl, Nat.zero_le _, rfl, HR0.out⟩
  case round =>
    obtain ⟨j, a', c', ups, rfl, hj, rfl, HB⟩ := hrel
    obtain ⟨f0, f1, fl, ff⟩ := HB.out.cells
    by_cases hlt : j < N
    · have hltI : (j : Int) < (N : Int) := by omega
      have HSz : Hid (q0 + 2 ≤ wr.heap.size) := by have := HW.out.2.1; have := HW.out.2.2; show q0 + 2 ≤ _; have := HB.out.lo; have := lt_of_block HB.out.box; omega
      have HA : Hid ((wr.alloc (.cells #[.int .i64 (-1)] 3)).ownsRow (q0 + 2) 3 1 (.slice a' j c') j (ups.map cellI)) :=
        row_at HB.out.row (fun z hz => Below.heap_alloc _ _ _ ((World.ownsRow.lt HB.out.row z hz).2))
      have f1f := ff 1
      clear ff
      go_wp2_with (at_builtin; go_loud (refine wpList_own_append _ rfl _ _ 22 22 rfl (q0 + 2) 3 i0 _ 8 Tryd.underlying22 hif hz0 hz1 hz2 rfl _ _ _ rfl HA.out _ 1 [cellI (-1)] rfl (src_oneT wr (-1)) (by unfold maxLen; omega) (by omega) (by have := HSz.out; simp; omega) ?_))
      intro v' w6 ha
      obtain ⟨a6, c6, rfl⟩ := ha.shape
      obtain ⟨hbx, hro⟩ := HB.out.app rfl _ ha
      have H6 : Hid (RoAt w (w6.setCell ⟨q, 1, none⟩ (.slice a6 (j + 1) c6)) q (q0 + 2) tr0 a6 (j + 1) c6 (ups ++ [-1])) := hro
      have g1 : w6.cell? ⟨q, 1, none⟩ = some (.slice a' j c') := by simp [World.cell?, hbx]
      have g1f : w6.frozen? ⟨q, 1, none⟩ = false := by simp [World.frozen?, hbx]
      have gl := lt_of_block hbx
      obtain ⟨w7, hw7⟩ : ∃ w7, w7 = w6.setCell ⟨q, 1, none⟩ (.slice a6 (j + 1) c6) := ⟨_, rfl⟩
      clear hbx hro ha HA f0 f1 f1f
      go_wp2
      go_roundg (N - (j + 1))
      case measure => omega
      case rel => exact ⟨j + 1, a6, c6, ups ++ [-1], by go_num, by omega, rfl, H6.out⟩
    · have hNj : N = j := by omega
      subst hNj
      have H3 : Hid (RoAt w wr q (q0 + 2) tr0 a' N c' ups) := HB.out
      clear HB f0 f1 fl ff HR0 hlt
      go_wp2
      go_loopg [23] m (fun kx s wr => ∃ (i : Nat) (t : Tr) (ups : List Int), s = .int .i64 i ∧ i ≤ m ∧ kx = m - i ∧ Hid (RoAt w wr q (q0 + 2) t a' N c' ups ∧ ofT (nxL l) tr0 (ms.take i) = (0, t) ∧ TrOk (nxL l) t ∧ ∀ k v, lookI t.up k = some v → 0 ≤ v))
      case atStart => exact ⟨0, tr0, ups, rfl, Nat.zero_le _, rfl, ⟨H3.out, by rw [List.take_zero, ofT_nil], TrOk.zero _, fun k v h => by simp [tr0, lookI] at h⟩⟩
      case round =>
        obtain ⟨i, t, ups2, rfl, hi, rfl, HB⟩ := hrel
        clear H3
        by_cases hlt : i < m
        · obtain ⟨mb, mo, hmb, hml, _, hmc⟩ := (H.out.2.1.below (Nat.le_refl _) HB.out.1.bel).one (v := Value.int .i64) (fun _ => rfl) (i := i) hlt
          subst hmb
          have hsn := take_snocI ms (j := i) (by rw [H.out.2.2.2]; exact hlt)
          obtain ⟨y, hy⟩ : ∃ y, y = ms.getD i 0 := ⟨_, rfl⟩
          rw [← hy] at hmc hsn
          have HO : Hid (ofT (nxL l) tr0 (ms.take (i + 1)) = walkT (nxL l) 66 t y) := by
            show ofT (nxL l) tr0 (ms.take (i + 1)) = _
            rw [hsn, of_snoc _ _ _ _ (by rw [HB.out.2.1]), HB.out.2.1]
          clear hy hsn
          go_wp2
          clear hmc
          go_loopg [8, 9] 66 (fun kx nv s wr => ∃ (z : Nat) (n : Int) (t' : Tr) (ups' : List Int), s = .int .i64 z ∧ nv = .int .i64 n ∧ z ≤ 66 ∧ kx = 66 - z ∧ Hid (RoAt w wr q (q0 + 2) t' a' N c' ups' ∧ ofT (nxL l) tr0 (ms.take (i + 1)) = walkT (nxL l) (66 - z) t' n ∧ TrOk (nxL l) t' ∧ (∀ k v, lookI t'.up k = some v → 0 ≤ v ∨ v = n) ∧ z ≤ t'.up.length))
          case atStart => exact ⟨0, y, t, ups2, rfl, rfl, Nat.zero_le _, rfl, ⟨HB.out.1, HO.out, HB.out.2.2.1, fun k v h => .inl (HB.out.2.2.2 k v h), Nat.zero_le _⟩⟩
          case round =>
            obtain ⟨z, n, t', ups', rfl, rfl, hz, rfl, HI⟩ := hrel
            have hz66 : z < 66 := by
              have h1 := fit_len HI.out.2.2.1
              have h2 := H.out.2.2.1
              have h3 := HI.out.2.2.2.2
              omega
            have hzI : (z : Int) < 66 := by omega
            have HS : Hid (ofT (nxL l) tr0 (ms.take (i + 1)) = if t'.has n then (0, t') else match nxL l n with
                | none => (6, t')
                | some v => if v = n then (if t'.root = -1 then (0, ⟨n, t'.up⟩) else (5, t')) else walkT (nxL l) (66 - (z + 1)) ⟨t'.root, t'.up ++ [(n, v)]⟩ v) := by
              have := HI.out.2.1
              rw [show 66 - z = (66 - (z + 1)) + 1 by omega] at this
              exact this
            obtain ⟨f0, f1, fl, ff⟩ := HI.out.1.cells
            obtain ⟨o0, o1, ol, of⟩ := HI.out.1.olds
            rw [← HW.out.2.2.2.1] at o0 o1 ol of
            have of0 := of 0
            have of1 := of 1
            have ff0 := ff 0
            have ff1 := ff 1
            clear of ff
            by_cases h0 : n < 0
            · have HN : Hid (nxL l n = none) := by show nxL l n = none; unfold nxL; rw [if_neg (by omega)]
              have HC : Hid ((treeOf (nxL l) ms).1 = 6) := by
                have hh : t'.has n = false := by
                  cases hb : t'.has n with
                  | false => rfl
                  | true => obtain ⟨v, hv⟩ := HI.out.2.2.1.has hb; rw [HN.out] at hv; cases hv
                refine of_codeT _ _ (j := i + 1) (c := 6) (t := t') ?_ (by decide)
                rw [HS.out, hh, HN.out]; rfl
              clear HS
              go_wp2
              refine bodyPost_ret (v := .tuple #[.agg #[.int .i64 0, .slice none 0 0], .int .i64 6]) (by simp [results, Tryd.results5, go_sem, *]) rfl ⟨.inl ⟨?_, ?_⟩, ?_⟩
              · rw [HC.out]; decide
              · rw [HC.out]
              · have b := HI.out.1.bel
                have hq := HW.out.2.2.2.1
                first
                  | exact (b.setCell (p := ⟨q0, 0, none⟩) (by rw [hq]; exact Nat.le_refl _) _).setCell (p := ⟨q0, 1, none⟩) (by rw [hq]; exact Nat.le_refl _) _
                  | exact b
            · obtain ⟨k, rfl⟩ : ∃ k : Nat, n = k := ⟨n.toNat, by omega⟩
              by_cases h1 : k < N
              · have h1I : (k : Int) < (N : Int) := by omega
                have hk0 : (0 : Int) ≤ (k : Int) := by omega
                obtain ⟨xb, xo, hxb, hxl, _, hxc⟩ := (H.out.1.below (Nat.le_refl _) HI.out.1.bel).one (v := Value.int .i64) (fun _ => rfl) (i := k) h1
                subst hxb
                have HXB : Hid (xb < w.heap.size) := by
                  obtain ⟨xb2, xo2, hxb2, hxl2, _, _⟩ := H.out.1.one (v := Value.int .i64) (fun _ => rfl) (i := k) h1
                  simp at hxb2
                  show xb < _
                  omega
                obtain ⟨x, hx⟩ : ∃ x, x = l.getD k 0 := ⟨_, rfl⟩
                rw [← hx] at hxc
                by_cases hv : x = -1
                · have e1 : (x == -1) = true := by simpa using hv
                  have HN : Hid (nxL l (k : Int) = none) := by show nxL l (k : Int) = none; unfold nxL; rw [if_neg (fun z => z.2.2 (by rw [Int.toNat_natCast, ← hx]; exact hv))]
                  have HC : Hid ((treeOf (nxL l) ms).1 = 6) := by
                    have hh : t'.has (k : Int) = false := by
                      cases hb : t'.has (k : Int) with
                      | false => rfl
                      | true => obtain ⟨v, hv⟩ := HI.out.2.2.1.has hb; rw [HN.out] at hv; cases hv
                    refine of_codeT _ _ (j := i + 1) (c := 6) (t := t') ?_ (by decide)
                    rw [HS.out, hh, HN.out]; rfl
                  clear HS hv hx h0
                  go_wp2
                  refine bodyPost_ret (v := .tuple #[.agg #[.int .i64 0, .slice none 0 0], .int .i64 6]) (by simp [results, Tryd.results5, go_sem, *]) rfl ⟨.inl ⟨?_, ?_⟩, ?_⟩
                  · rw [HC.out]; decide
                  · rw [HC.out]
                  · have b := HI.out.1.bel
                    have hq := HW.out.2.2.2.1
                    first
                      | exact (b.setCell (p := ⟨q0, 0, none⟩) (by rw [hq]; exact Nat.le_refl _) _).setCell (p := ⟨q0, 1, none⟩) (by rw [hq]; exact Nat.le_refl _) _
                      | exact b
                · have e1 : (x == -1) = false := by simpa using hv
                  have HN : Hid (nxL l (k : Int) = some x) := by
                    show nxL l (k : Int) = some x
                    unfold nxL
                    rw [if_pos ⟨by omega, by rw [H.out.2.2.1]; omega, by rw [Int.toNat_natCast, ← hx]; exact hv⟩, Int.toNat_natCast, ← hx]
                  obtain ⟨g, hg, hgB, hgl⟩ := HI.out.1.ex h1
                  subst hg
                  obtain ⟨u0, uf⟩ := HI.out.1.at h1
                  obtain ⟨root, hroot⟩ : ∃ r, r = t'.root := ⟨_, rfl⟩
                  rw [← hroot] at f0
                  have HRR : Hid (root = t'.root) := hroot
                  clear hv hx hroot h0
                  by_cases hr : (k : Int) = root
                  · have e2 : ((k : Int) == root) = true := by simpa using hr
                    have HF : Hid (ofT (nxL l) tr0 (ms.take (i + 1)) = (0, t')) := by
                      have hh : t'.has (k : Int) = true := Tr.has_iff.2 (.inr ⟨by have := HRR.out; omega, by rw [hr]; exact HRR.out⟩)
                      have := HS.out
                      rw [hh] at this
                      exact this
                    clear hr HS
                    go_wp2
                    go_roundg (m - (i + 1))
                    case measure => omega
                    case rel => exact ⟨i + 1, t', ups', by go_num, by omega, rfl, ⟨HI.out.1, HF.out, HI.out.2.2.1, fun k' v h => (HI.out.2.2.2.1 k' v h).elim id (fun e => by omega)⟩⟩
                  · have e2 : ((k : Int) == root) = false := by simpa using hr
                    cases hlk : lookI t'.up (k : Int) with
                    | some u =>
                      rw [hlk] at u0
                      simp only [Option.getD_some] at u0
                      have hu0 : 0 ≤ u := (HI.out.2.2.2.1 _ _ hlk).elim id (fun e => by omega)
                      have HF : Hid (ofT (nxL l) tr0 (ms.take (i + 1)) = (0, t')) := by
                        have hh : t'.has (k : Int) = true := Tr.has_iff.2 (.inl ⟨u, hlk⟩)
                        have := HS.out
                        rw [hh] at this
                        exact this
                      clear hr HS hlk
                      go_wp2
                      go_roundg (m - (i + 1))
                      case measure => omega
                      case rel => exact ⟨i + 1, t', ups', by go_num, by omega, rfl, ⟨HI.out.1, HF.out, HI.out.2.2.1, fun k' v h => (HI.out.2.2.2.1 k' v h).elim id (fun e => by omega)⟩⟩
                    | none =>
                      rw [hlk] at u0
                      simp only [Option.getD_none] at u0
                      have HH : Hid (t'.has (k : Int) = false ∧ lookI t'.up (k : Int) = none) := by
                        refine ⟨?_, hlk⟩
                        cases hb : t'.has (k : Int) with
                        | false => rfl
                        | true =>
                          rcases Tr.has_iff.1 hb with ⟨v, hv⟩ | ⟨_, hv⟩
                          · rw [hlk] at hv; cases hv
                          · exact absurd (by rw [hv]; exact HRR.out.symm) hr
                      have HS2 : Hid (ofT (nxL l) tr0 (ms.take (i + 1)) = if x = (k : Int) then (if t'.root = -1 then (0, ⟨(k : Int), t'.up⟩) else (5, t')) else walkT (nxL l) (66 - (z + 1)) ⟨t'.root, t'.up ++ [((k : Int), x)]⟩ x) := by
                        have := HS.out
                        rw [HH.out.1, HN.out] at this
                        exact this
                      clear HS hlk hr
                      by_cases hxk : x = (k : Int)
                      · subst hxk
                        have e3 : ((k : Int) == (k : Int)) = true := by simp
                        by_cases hr0 : 0 ≤ root
                        · have HC : Hid ((treeOf (nxL l) ms).1 = 5) := by
                            refine of_codeT _ _ (j := i + 1) (c := 5) (t := t') ?_ (by decide)
                            rw [HS2.out, if_pos rfl, if_neg (by have := HRR.out; omega)]
                          clear HS2
                          go_wp2
                          refine bodyPost_ret (v := .tuple #[.agg #[.int .i64 0, .slice none 0 0], .int .i64 5]) (by simp [results, Tryd.results5, go_sem, *]) rfl ⟨.inl ⟨?_, ?_⟩, ?_⟩
                          · rw [HC.out]; decide
                          · rw [HC.out]
                          · have b := HI.out.1.bel
                            have hq := HW.out.2.2.2.1
                            first
                              | exact (b.setCell (p := ⟨q0, 0, none⟩) (by rw [hq]; exact Nat.le_refl _) _).setCell (p := ⟨q0, 1, none⟩) (by rw [hq]; exact Nat.le_refl _) _
                              | exact b
                        · have HF : Hid (ofT (nxL l) tr0 (ms.take (i + 1)) = (0, ⟨(k : Int), t'.up⟩)) := by
                            have hrm : t'.root = -1 := by
                              rcases fit_root HI.out.2.2.1 with h | h
                              · exact h
                              · have := HRR.out; omega
                            have := HS2.out
                            rw [if_pos rfl, if_pos hrm] at this
                            exact this
                          have HRo : Hid (RoAt w (wr.setCell ⟨q, 0, none⟩ (.int .i64 (k : Int))) q (q0 + 2) ⟨(k : Int), t'.up⟩ (some ⟨g, 0, none⟩) N c' ups') := HI.out.1.root _
                          clear HS2
                          go_wp2
                          go_roundg (m - (i + 1))
                          case measure => omega
                          case rel => exact ⟨i + 1, ⟨(k : Int), t'.up⟩, ups', by go_num, by omega, rfl, ⟨HRo.out, HF.out, HI.out.2.2.1.made HN.out, fun k' v h => (HI.out.2.2.2.1 k' v h).elim id (fun e => by omega)⟩⟩
                      · have e3 : (x == (k : Int)) = false := by simpa using hxk
                        have HF : Hid (ofT (nxL l) tr0 (ms.take (i + 1)) = walkT (nxL l) (66 - (z + 1)) ⟨t'.root, t'.up ++ [((k : Int), x)]⟩ x) := by
                          have := HS2.out
                          rw [if_neg hxk] at this
                          exact this
                        have HRo : Hid (RoAt w (wr.setCell ⟨g, k, none⟩ (.int .i64 x)) q (q0 + 2) ⟨t'.root, t'.up ++ [((k : Int), x)]⟩ (some ⟨g, 0, none⟩) N c' (ups'.set k x) ∧ TrOk (nxL l) ⟨t'.root, t'.up ++ [((k : Int), x)]⟩) := ⟨HI.out.1.put h1 HH.out.2 x, HI.out.2.2.1.put HH.out.1 HN.out hxk⟩
                        have hxc2 : (wr.setCell ⟨g, k, none⟩ (.int .i64 x)).cell? ⟨xb, xo + k, none⟩ = some (.int .i64 x) := by
                          refine (World.cell?_of_block ?_).trans hxc
                          refine Below.heap_setCell _ _ _ _ ?_
                          have := HXB.out
                          have := HI.out.1.lo
                          show xb ≠ g
                          omega
                        have hxl2 : xb < (wr.setCell ⟨g, k, none⟩ (.int .i64 x)).heap.size := cell_block hxc2
                        clear HS2 hxk
                        obtain ⟨w7, hw7⟩ : ∃ w7, w7 = wr.setCell ⟨g, k, none⟩ (.int .i64 x) := ⟨_, rfl⟩
                        rw [← hw7] at hxc2 hxl2 HRo
                        go_upto_region 19 with fail
                        go_cut [] (fun wx => wx = w7.drew)
                        case first =>
                          go_region
                          all_goals
                            go_wp2
                            go_meet
                            rw [hw7]
                        case rest =>
                          rename World => w8
                          have hxc3 : w8.cell? ⟨xb, xo + k, none⟩ = some (.int .i64 x) := by rw [hcut]; exact hxc2
                          have hxl3 : xb < w8.heap.size := by rw [hcut]; exact hxl2
                          have HRo8 : Hid (RoAt w w8 q (q0 + 2) ⟨t'.root, t'.up ++ [((k : Int), x)]⟩ (some ⟨g, 0, none⟩) N c' (ups'.set k x)) := by
                            rw [hcut]
                            exact ⟨HRo.out.1.box, HRo.out.1.row, HRo.out.1.val, HRo.out.1.len, ⟨HRo.out.1.bel.os, HRo.out.1.bel.tape, HRo.out.1.bel.output, HRo.out.1.bel.size, HRo.out.1.bel.block⟩, HRo.out.1.lo, HRo.out.1.old⟩
                          clear hcut hw7 hxc2 hxl2
                          go_wp2
                          go_roundg (66 - (z + 1))
                          case measure => omega
                          case rel => exact ⟨z + 1, x, _, _, by go_num, rfl, by omega, rfl, ⟨HRo8.out, HF.out, HRo.out.2, fun k' v h => by
                              rw [lookI_snoc _ _ _ _ HH.out.2] at h
                              by_cases e : k' = (k : Int)
                              · rw [if_pos e] at h; cases h; exact .inr rfl
                              · rw [if_neg e] at h
                                exact (HI.out.2.2.2.1 k' v h).elim .inl (fun e => .inl (by omega)), by have := HI.out.2.2.2.2; show z + 1 ≤ (t'.up ++ [((k : Int), x)]).length; rw [List.length_append, List.length_singleton]; omega⟩⟩
              · have h1I : ¬ (k : Int) < (N : Int) := by omega
                have HN : Hid (nxL l (k : Int) = none) := by show nxL l (k : Int) = none; unfold nxL; rw [if_neg (by rw [H.out.2.2.1]; omega)]
                have HC : Hid ((treeOf (nxL l) ms).1 = 6) := by
                  have hh : t'.has (k : Int) = false := by
                    cases hb : t'.has (k : Int) with
                    | false => rfl
                    | true => obtain ⟨v, hv⟩ := HI.out.2.2.1.has hb; rw [HN.out] at hv; cases hv
                  refine of_codeT _ _ (j := i + 1) (c := 6) (t := t') ?_ (by decide)
                  rw [HS.out, hh, HN.out]; rfl
                clear HS
                go_wp2
                refine bodyPost_ret (v := .tuple #[.agg #[.int .i64 0, .slice none 0 0], .int .i64 6]) (by simp [results, Tryd.results5, go_sem, *]) rfl ⟨.inl ⟨?_, ?_⟩, ?_⟩
                · rw [HC.out]; decide
                · rw [HC.out]
                · have b := HI.out.1.bel
                  have hq := HW.out.2.2.2.1
                  first
                    | exact (b.setCell (p := ⟨q0, 0, none⟩) (by rw [hq]; exact Nat.le_refl _) _).setCell (p := ⟨q0, 1, none⟩) (by rw [hq]; exact Nat.le_refl _) _
                    | exact b
        · have hmi : m = i := by omega
          subst hmi
          have HF : Hid (ofT (nxL l) tr0 ms = (0, t)) := by have := HB.out.2.1; rw [List.take_of_length_le (by rw [H.out.2.2.2]; exact Nat.le_refl _)] at this; exact this
          have HTO : Hid (treeOf (nxL l) ms = if 0 < ms.length ∧ t.root = -1 then (13, t) else (0, t)) := by
            show treeOf (nxL l) ms = _
            unfold treeOf
            rw [HF.out]
            simp
          have HFR : Hid (t.root = -1 ∨ 0 ≤ t.root) := (fit_root HB.out.2.2.1).imp id (fun z => z.1)
          have HRV : Hid (∀ W, (∀ k : Nat, k < N → ∀ g, a' = some ⟨g, 0, none⟩ → W.cell? ⟨g, k, none⟩ = wr.cell? ⟨g, k, none⟩) → wr.heap.size ≤ W.heap.size → RtV W t a' N) := fun W hW hsz => by
            have hl := HB.out.1.len
            refine ⟨⟨ups2, ⟨hl, by omega, ?_⟩, HB.out.1.val⟩, fun k v hk => ⟨HB.out.2.2.2 k v hk, ?_⟩, ?_, ?_⟩
            · by_cases h0 : N = 0
              · exact .inl h0
              · obtain ⟨g, hg, hgB, hgl⟩ := HB.out.1.ex (k := 0) (by omega)
                subst hg
                refine .inr ⟨g, 0, rfl, by omega, fun j hj => ?_⟩
                have hc := (HB.out.1.at hj).1
                refine ⟨?_, fun o ho => ?_⟩
                · rw [HB.out.1.val j hj]
                  cases hv : lookI t.up j with
                  | none => simp [i64]
                  | some v =>
                    have h1 := nxL_some (HB.out.2.2.1.st _ _ hv).1
                    have h2 := (H.out.1.2.2)
                    rcases h2 with h2 | ⟨b2, o2, _, _, h3⟩
                    · omega
                    · have := (h3 j hj).1
                      simp only [Option.getD_some]
                      rw [← h1.2.2.2]
                      simpa using this
                · obtain rfl : o = 0 := by omega
                  have e : (⟨g, 0 + j * 1 + 0, none⟩ : Addr) = ⟨g, j, none⟩ := by simp
                  rw [e, hW j hj g rfl, hc, HB.out.1.val j hj]
                  rfl
            · have := fit_key HB.out.2.2.1 (List.mem_map.2 ⟨_, lookI_some hk, rfl⟩)
              have := H.out.2.2.1
              simp at *
              omega
            · have := fit_root HB.out.2.2.1
              have := H.out.2.2.1
              omega
            · have := fit_len HB.out.2.2.1
              have := H.out.2.2.1
              omega
          obtain ⟨f0, f1, fl, ff⟩ := HB.out.1.cells
          obtain ⟨o0, o1, ol, of⟩ := HB.out.1.olds
          rw [← HW.out.2.2.2.1] at o0 o1 ol of
          have of0 := of 0
          have of1 := of 1
          clear of ff hlt
          obtain ⟨root, hroot⟩ : ∃ r, r = t.root := ⟨_, rfl⟩
          rw [← hroot] at f0
          have HRR : Hid (root = t.root) := hroot
          clear hroot
          by_cases h0 : 0 < m
          · have h0I : (0 : Int) < (m : Int) := by omega
            by_cases hr : root < 0
            · have HT : Hid (treeOf (nxL l) ms = (13, t)) := by
                have := HTO.out
                rw [if_pos ⟨by rw [H.out.2.2.2]; exact h0, by have := HFR.out; have := HRR.out; omega⟩] at this
                exact this
              clear h0
              go_wp2
              refine bodyPost_ret (v := .tuple #[.agg #[.int .i64 0, .slice none 0 0], .int .i64 13]) (by simp [results, Tryd.results5, go_sem, *]) rfl ⟨.inl ⟨?_, ?_⟩, ?_⟩
              · rw [HT.out]; simp
              · rw [HT.out]
              · have b := HB.out.1.bel
                have hq := HW.out.2.2.2.1
                first
                  | exact (b.setCell (p := ⟨q0, 0, none⟩) (by rw [hq]; exact Nat.le_refl _) _).setCell (p := ⟨q0, 1, none⟩) (by rw [hq]; exact Nat.le_refl _) _
                  | exact b
            · have HT : Hid (treeOf (nxL l) ms = (0, t)) := by
                have := HTO.out
                rw [if_neg (fun z => hr (by have := HRR.out; omega))] at this
                exact this
              clear h0
              go_wp2
              refine bodyPost_ret (v := .tuple #[.agg #[.int .i64 root, .slice a' N c'], .int .i64 0]) (by simp [results, Tryd.results5, go_sem, *]) rfl ⟨.inr ⟨?_, ?_⟩, ?_⟩
              · rw [HT.out]
              · rw [HT.out]
                refine ⟨a', c', by rw [HRR.out], HRV.out _ (fun k hk g hg => ?_) ?_⟩
                · refine World.cell?_of_block ?_
                  obtain ⟨g', hg', hgB, _⟩ := HB.out.1.ex hk
                  have hgg : g' = g := by rw [hg] at hg'; simpa using hg'.symm
                  have hne : g ≠ q0 := by have := HB.out.1.lo; have := HW.out.2.2; omega
                  first
                    | rw [Below.heap_setCell _ ⟨q0, 1, none⟩ _ _ hne, Below.heap_setCell _ ⟨q0, 0, none⟩ _ _ hne]
                    | rfl
                · simp [World.setCell]
              · have b := HB.out.1.bel
                have hq := HW.out.2.2.2.1
                first
                  | exact (b.setCell (p := ⟨q0, 0, none⟩) (by rw [hq]; exact Nat.le_refl _) _).setCell (p := ⟨q0, 1, none⟩) (by rw [hq]; exact Nat.le_refl _) _
                  | exact b
          · have HT : Hid (treeOf (nxL l) ms = (0, t)) := by
              have := HTO.out
              rw [if_neg (fun z => h0 (by have := z.1; rw [H.out.2.2.2] at this; exact this))] at this
              exact this
            have h0I : ¬ (0 : Int) < (m : Int) := by omega
            go_wp2
            refine bodyPost_ret (v := .tuple #[.agg #[.int .i64 root, .slice a' N c'], .int .i64 0]) (by simp [results, Tryd.results5, go_sem, *]) rfl ⟨.inr ⟨?_, ?_⟩, ?_⟩
            · rw [HT.out]
            · rw [HT.out]
              refine ⟨a', c', by rw [HRR.out], HRV.out _ (fun k hk g hg => ?_) ?_⟩
              · refine World.cell?_of_block ?_
                obtain ⟨g', hg', hgB, _⟩ := HB.out.1.ex hk
                have hgg : g' = g := by rw [hg] at hg'; simpa using hg'.symm
                have hne : g ≠ q0 := by have := HB.out.1.lo; have := HW.out.2.2; omega
                first
                  | rw [Below.heap_setCell _ ⟨q0, 1, none⟩ _ _ hne, Below.heap_setCell _ ⟨q0, 0, none⟩ _ _ hne]
                  | rfl
              · simp [World.setCell]
            · have b := HB.out.1.bel
              have hq := HW.out.2.2.2.1
              first
                | exact (b.setCell (p := ⟨q0, 0, none⟩) (by rw [hq]; exact Nat.le_refl _) _).setCell (p := ⟨q0, 1, none⟩) (by rw [hq]; exact Nat.le_refl _) _
                | exact b
end Go.Proofs.YtefaigdanoninaaDoor
