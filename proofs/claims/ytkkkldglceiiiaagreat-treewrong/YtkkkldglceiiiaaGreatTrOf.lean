/- tree.Of, of any Walker. -/
import Derived.Test.YtkkkldglceiiiaaGreatTrWalk
import Derived.Test.YtkkkldglceiiiaaGreatTrRow
namespace Go.Proofs.YtkkkldglceiiiaaGreat
open Go.ChangeShapes Go.WideShapes Go.ChangeAt Go.RowKit Go.Deep
open Go.ChangeMaps (setBlock)
set_option linter.unusedVariables false

/-- The place of a group's key. -/
def gpre : ByteArray := ⟨#[103, 114, 111, 117, 112, 32]⟩
def gkeyT (s : ByteArray) : Int := hashN (gpre ++ s)
theorem gkey_t (s : ByteArray) (w : World) (hs : s.size ≤ 200) : Calls Tryz.prog 9 #[.string s] w fun e w' => e = .returned (.int .u64 (gkeyT s)) ∧ w' = w := by
  have hz : (gpre ++ s).size ≤ 300 := by rw [ByteArray.size_append]; show 6 + s.size ≤ 300; omega
  have H : Hid (Calls Tryz.prog 27 #[.string (gpre ++ s)] w fun e w' => e = .returned (.int .u64 (hashN (gpre ++ s))) ∧ w' = w) := hash_any _ _ hz
  have hl : s.size ≤ 200 := hs
  clear hz
  unfold gpre at H
  go_enter Tryz.func9, Tryz.ntmps9
  go_wp2_with (go_at_call 27; refine Calls.mono H.out ?_; rintro e w' ⟨rfl, hw'⟩; subst w')
  go_ret
  exact ⟨rfl, rfl⟩

/-- What Of answers. -/
def OfR (e : Ending) (w' : World) (c : Int) (t : Tr) : Prop :=
  (c ≠ 0 ∧ e = .returned (.tuple #[.agg #[.int .i64 0, .map none], .iface 43 (.int .i64 c)])) ∨
  (c = 0 ∧ ∃ g, e = .returned (.tuple #[.agg #[.int .i64 t.root, .map (some g)], .nilIface]) ∧ UpAt w' g t.up)
theorem code_ne {c : Int} (h : c ≠ 0) : codeV c = .iface 43 (.int .i64 c) := by unfold codeV; rw [if_neg h]
theorem code_nil {c : Int} (h : c = 0) : codeV c = .nilIface := by unfold codeV; rw [if_pos h]
theorem take_snocI (l : List Int) {j : Nat} (h : j < l.length) : l.take (j + 1) = l.take j ++ [l.getD j 0] := by
  rw [List.take_succ_eq_append_getElem h]; simp [List.getD, h]

set_option maxRecDepth 100000 in
set_option maxHeartbeats 4000000 in
theorem tree_of (w : World) (T : TypeId) (v : Value) (K : Nat) (nx : Int → Option Int) (name : ByteArray) (a : Option Addr) (n c : Nat) (ms : List Int) (hn : name.size ≤ 200) (hin : InIn w a n ms) (hk : Wk w T v K (gkeyT name) nx) (hnx : nx (-1) = none) (h1000 : n ≤ 1000) :
    Calls Tryz.prog 16 #[.iface T v, .string name, .slice a n c] w fun e w' => OfR e w' (treeOf nx ms).1 (treeOf nx ms).2 ∧ Below w.heap.size w w' := by
  have hmm := @run_makeMap Tryz.prog
  obtain ⟨x, hx⟩ : ∃ x, x = gkeyT name := ⟨_, rfl⟩
  obtain ⟨q0, hq0⟩ : ∃ q, q = w.heap.size := ⟨_, rfl⟩
  obtain ⟨W1, hW1⟩ : ∃ W, W = w.alloc (.cells #[.int .i64 0, .map none] 40) := ⟨_, rfl⟩
  obtain ⟨W3, hW3⟩ : ∃ W3, W3 = (W1.alloc (.map #[] 0)).alloc (.cells #[.int .i64 (-1), .map (some W1.heap.size), .iface T v, .int .u64 x, .bool false] 78) := ⟨_, rfl⟩
  obtain ⟨q, hqq⟩ : ∃ q, q = W1.heap.size + 1 := ⟨_, rfl⟩
  obtain ⟨g, hgg⟩ : ∃ g, g = W1.heap.size := ⟨_, rfl⟩
  have b1 : Below w.heap.size w W1 := by rw [hW1]; exact below_one _ _
  have b3 : Below W1.heap.size W1 W3 := by rw [hW3]; exact (below_one _ _).trans ((below_one _ _).mono (by simp))
  have hg3 : GwAt W3 q g tr0 (.iface T v) x := by
    refine ⟨?_, ?_⟩
    · rw [hqq, hgg, hW3]
      have e := heap_alloc_new (W1.alloc (.map #[] 0)) (.cells #[.int .i64 (-1), .map (some W1.heap.size), .iface T v, .int .u64 x, .bool false] 78)
      rw [show (W1.alloc (.map #[] 0)).heap.size = W1.heap.size + 1 by simp] at e
      exact e
    · have hm := MpK.made (kv := kvI) W1
      rw [hgg]
      refine hm.of_block ?_
      rw [hW3]
      exact Below.heap_alloc _ _ _ (by simp)
  have r0 : W1.heap[q0]? = some (.cells #[.int .i64 0, .map none] 40 (0, 0)) := by rw [hW1, hq0]; exact heap_alloc_new w _
  have H : Hid (InIn W1 a n ms ∧ Wk W1 T v K x nx ∧ nx (-1) = none ∧ name.size ≤ 200 ∧ n ≤ 1000 ∧ ms.length = n) :=
    ⟨hin.below (Nat.le_refl _) b1, by rw [hx]; exact ⟨hk.mth, hk.ent, fun W n hW => hk.call W n (b1.trans (hW.mono b1.size))⟩, hnx, hn, h1000, hin.1⟩
  have HX : Hid (gkeyT name = x) := hx.symm
  have HW : Hid (Below w.heap.size w W1 ∧ Below W1.heap.size W1 W3 ∧ GwAt W3 q g tr0 (.iface T v) x ∧ W1.heap[q0]? = some (.cells #[.int .i64 0, .map none] 40 (0, 0)) ∧ W1.heap.size ≤ q ∧ W1.heap.size ≤ g ∧ w.heap.size ≤ q0) := ⟨b1, b3, hg3, r0, by omega, by omega, by omega⟩
  clear hin hk hnx hn h1000 hx b1 b3 hg3 r0
  go_enter Tryz.func16, Tryz.ntmps16
  go_upto_region 1 with fail
  rw [← hW1]
  try rw [← hq0]
  clear hW1 hq0
  go_cut [8] (fun p wx => p = .pointer (some ⟨q, 0, none⟩) ∧ wx = W3)
  case first =>
    go_wp2_with (go_at_call 9; refine (gkey_t name _ H.out.2.2.2.1).mono ?_; rintro e w' ⟨rfl, hw'⟩; subst w'; rw [HX.out])
    go_meet
    refine ⟨?_, hW3.symm⟩
    rw [hqq]
  case rest =>
    rename World => W4
    obtain ⟨rfl, hw4⟩ := hcut
    subst W4
    clear hW3 hqq hgg hmm
    go_wp2
    go_loopg [20] n (fun kx s wr => ∃ (j : Nat) (t : Tr), s = .int .i64 j ∧ j ≤ n ∧ kx = n - j ∧ Hid (GwAt wr q g t (.iface T v) x ∧ Below W1.heap.size W1 wr ∧ ofT nx tr0 (ms.take j) = (0, t)))
    case atStart => exact ⟨0, tr0, rfl, Nat.zero_le _, rfl, ⟨HW.out.2.2.1, HW.out.2.1, by rw [List.take_zero, ofT_nil]⟩⟩
    case round =>
      obtain ⟨j, t, rfl, hj, rfl, HB⟩ := hrel
      have hn1 := H.out.2.2.2.2.1
      have r0 := (HB.out.2.1.block q0 (lt_of_block HW.out.2.2.2.1)).trans HW.out.2.2.2.1
      by_cases hlt : j < n
      · obtain ⟨mb, mo, hmb, hml, _, hmc⟩ := (H.out.1.below (Nat.le_refl _) HB.out.2.1).one (v := Value.int .i64) (fun _ => rfl) (i := j) hlt
        subst hmb
        have hsn := take_snocI ms (j := j) (by rw [H.out.2.2.2.2.2]; exact hlt)
        obtain ⟨y, hy⟩ : ∃ y, y = ms.getD j 0 := ⟨_, rfl⟩
        rw [← hy] at hmc hsn
        have HO : Hid (ofT nx tr0 (ms.take (j + 1)) = walkT nx 66 t y) := by
          show ofT nx tr0 (ms.take (j + 1)) = _
          rw [hsn, of_snoc nx _ _ _ (by rw [HB.out.2.2]), HB.out.2.2]
        clear hy hsn
        go_wp2_with fail
        refine (walk_any W1 wr q g T v K x nx t y H.out.2.1 HB.out.1 HB.out.2.1 HW.out.2.2.2.2.1 HW.out.2.2.2.2.2.1 H.out.2.2.1).mono ?_
        rintro e w5 ⟨rfl, h5, b5⟩
        obtain ⟨cd, hcd⟩ : ∃ o, o = (walkT nx 66 t y).1 := ⟨_, rfl⟩
        rw [← hcd]
        have H5 : Hid (GwAt w5 q g (walkT nx 66 t y).2 (.iface T v) x ∧ Below W1.heap.size W1 w5) := ⟨h5, b5⟩
        have r5 := (b5.block q0 (lt_of_block HW.out.2.2.2.1)).trans HW.out.2.2.2.1
        have l5 := lt_of_block r5
        have c50 : w5.cell? ⟨q0, 0, none⟩ = some (.int .i64 0) := by simp [World.cell?, r5]
        have c51 : w5.cell? ⟨q0, 1, none⟩ = some (.map none) := by simp [World.cell?, r5]
        have f50 : w5.frozen? ⟨q0, 0, none⟩ = false := by simp [World.frozen?, r5]
        have f51 : w5.frozen? ⟨q0, 1, none⟩ = false := by simp [World.frozen?, r5]
        clear h5 b5
        by_cases hc : cd = 0
        · have HC : Hid (ofT nx tr0 (ms.take (j + 1)) = (0, (walkT nx 66 t y).2)) := by
            show _ = _
            rw [HO.out]
            exact Prod.ext (by rw [← hcd]; exact hc) rfl
          rw [code_nil hc]
          clear hc hcd r0 r5 c50 c51 f50 f51 hmc
          go_wp2
          go_roundg (n - (j + 1))
          case measure => omega
          case rel => exact ⟨j + 1, _, by go_num, by omega, rfl, ⟨H5.out.1, H5.out.2, HC.out⟩⟩
        · have HC : Hid ((treeOf nx ms).1 = cd ∧ cd ≠ 0) := by
            refine ⟨?_, hc⟩
            have e1 : (ofT nx tr0 (ms.take (j + 1))).1 = cd := by rw [HO.out, hcd]
            have e2 : ofT nx tr0 ms = ofT nx tr0 (ms.take (j + 1)) := by
              conv => lhs; rw [← List.take_append_drop (j + 1) ms]
              exact of_stop nx _ _ _ (by rw [e1]; exact hc)
            unfold treeOf
            rw [e2, if_pos (by rw [e1]; exact hc)]
            exact e1
          rw [code_ne hc]
          clear hc hcd r0 hmc
          go_wp2
          refine bodyPost_ret (v := .tuple #[.agg #[.int .i64 0, .map none], .iface 43 (.int .i64 cd)]) (by simp [results, Tryz.results16, go_sem, *]) rfl ⟨.inl ⟨?_, ?_⟩, ?_⟩
          · rw [HC.out.1]; exact HC.out.2
          · rw [HC.out.1]
          · have b := HW.out.1.trans (H5.out.2.mono HW.out.1.size)
            have hq := HW.out.2.2.2.2.2.2
            first
              | exact (b.setCell (p := ⟨q0, 0, none⟩) hq _).setCell (p := ⟨q0, 1, none⟩) hq _
              | exact b
      · obtain rfl : j = n := by omega
        have HF : Hid (ofT nx tr0 ms = (0, t)) := by have := HB.out.2.2; rw [List.take_of_length_le (by rw [H.out.2.2.2.2.2]; exact Nat.le_refl _)] at this; exact this
        obtain ⟨d0, d1, _, _, _, dl, _⟩ := HB.out.1.cells
        have l0 := lt_of_block r0
        have c00 : wr.cell? ⟨q0, 0, none⟩ = some (.int .i64 0) := by simp [World.cell?, r0]
        have c01 : wr.cell? ⟨q0, 1, none⟩ = some (.map none) := by simp [World.cell?, r0]
        have f00 : wr.frozen? ⟨q0, 0, none⟩ = false := by simp [World.frozen?, r0]
        have f01 : wr.frozen? ⟨q0, 1, none⟩ = false := by simp [World.frozen?, r0]
        have HBe : Hid (Below w.heap.size w wr ∧ w.heap.size ≤ q0 ∧ q0 < q) := ⟨HW.out.1.trans (HB.out.2.1.mono HW.out.1.size), HW.out.2.2.2.2.2.2, by have := lt_of_block HW.out.2.2.2.1; have := HW.out.2.2.2.2.1; omega⟩
        have HTO : Hid (treeOf nx ms = if 0 < ms.length ∧ t.root = -1 then (13, t) else (0, t)) := by
          show treeOf nx ms = _
          unfold treeOf
          rw [HF.out]
          simp
        by_cases h0 : 0 < j
        · have h0I : (0 : Int) < (j : Int) := by omega
          by_cases hr : t.root = -1
          · have e1 : (t.root == -1) = true := by simpa using hr
            have HT : Hid (treeOf nx ms = (13, t)) := by have := HTO.out; rw [if_pos ⟨by rw [H.out.2.2.2.2.2]; exact h0, hr⟩] at this; exact this
            clear hr hlt h0 r0
            go_wp2
            refine bodyPost_ret (v := .tuple #[.agg #[.int .i64 0, .map none], .iface 43 (.int .i64 13)]) (by simp [results, Tryz.results16, go_sem, *]) rfl ⟨.inl ⟨?_, ?_⟩, ?_⟩
            · rw [HT.out]; simp
            · rw [HT.out]
            · have b := HBe.out.1
              have hq := HBe.out.2.1
              first
                | exact (b.setCell (p := ⟨q0, 0, none⟩) hq _).setCell (p := ⟨q0, 1, none⟩) hq _
                | exact b
          · have e1 : (t.root == -1) = false := by simpa using hr
            have HT : Hid (treeOf nx ms = (0, t)) := by have := HTO.out; rw [if_neg (fun z => hr z.2)] at this; exact this
            clear hr hlt h0 r0
            go_wp2
            refine bodyPost_ret (v := .tuple #[.agg #[.int .i64 t.root, .map (some g)], .nilIface]) (by simp [results, Tryz.results16, go_sem, *]) rfl ⟨.inr ⟨?_, ?_⟩, ?_⟩
            · rw [HT.out]
            · rw [HT.out]
              refine ⟨g, rfl, HB.out.1.up.of_block ?_⟩
              have hne : g ≠ q0 := by have := lt_of_block HW.out.2.2.2.1; have := HW.out.2.2.2.2.2.1; omega
              first
                | rw [Below.heap_setCell _ ⟨q0, 1, none⟩ _ _ hne, Below.heap_setCell _ ⟨q0, 0, none⟩ _ _ hne]
                | rfl
            · have b := HBe.out.1
              have hq := HBe.out.2.1
              first
                | exact (b.setCell (p := ⟨q0, 0, none⟩) hq _).setCell (p := ⟨q0, 1, none⟩) hq _
                | exact b
        · obtain rfl : j = 0 := by omega
          have HT : Hid (treeOf nx ms = (0, t)) := by have := HTO.out; rw [if_neg (fun z => by have := z.1; rw [H.out.2.2.2.2.2] at this; exact h0 this)] at this; exact this
          clear hlt h0 r0
          go_wp2
          refine bodyPost_ret (v := .tuple #[.agg #[.int .i64 t.root, .map (some g)], .nilIface]) (by simp [results, Tryz.results16, go_sem, *]) rfl ⟨.inr ⟨?_, ?_⟩, ?_⟩
          · rw [HT.out]
          · rw [HT.out]
            refine ⟨g, rfl, HB.out.1.up.of_block ?_⟩
            have hne : g ≠ q0 := by have := lt_of_block HW.out.2.2.2.1; have := HW.out.2.2.2.2.2.1; omega
            first
              | rw [Below.heap_setCell _ ⟨q0, 1, none⟩ _ _ hne, Below.heap_setCell _ ⟨q0, 0, none⟩ _ _ hne]
              | rfl
          · have b := HBe.out.1
            have hq := HBe.out.2.1
            first
              | exact (b.setCell (p := ⟨q0, 0, none⟩) hq _).setCell (p := ⟨q0, 1, none⟩) hq _
              | exact b
end Go.Proofs.YtkkkldglceiiiaaGreat
