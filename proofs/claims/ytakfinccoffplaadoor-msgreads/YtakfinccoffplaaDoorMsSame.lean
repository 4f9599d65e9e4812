/- wigwaglaw15.Told; wigwagref15.Same of two like messages. -/
import Derived.Test.YtakfinccoffplaaDoorMsLen
import Derived.Deep.QuietTactic
import Derived.BigQuiet
namespace Go.Proofs.YtakfinccoffplaaDoor
open Go.ChangeShapes Go.WideShapes Go.ChangeAt Go.RowKit
set_option linter.unusedVariables false

theorem InRow.drewN {α : Type} {enc : α → List Value} {ok : α → Prop} {d : α} {k : Nat} {w : World} {a : Option Addr} {n : Nat} {l : List α} (h : InRow k enc ok d w a n l) (q : Nat) : InRow k enc ok d (w.drewN q) a n l := h

set_option maxHeartbeats 1000000 in
theorem texts15 (a b : Option Addr) (n c d : Nat) (A : List ByteArray) (w : World) (ha : InRow 1 encS okS ByteArray.empty w a n A) (hb : InRow 1 encS okS ByteArray.empty w b n A) :
    Calls Tryd.prog 37 #[.slice a n c, .slice b n d] w fun e w' => e = .returned (.bool true) ∧ Below w.heap.size w w' := by
  have HA : Hid (InRow 1 encS okS ByteArray.empty w a n A) := ha
  have HB : Hid (InRow 1 encS okS ByteArray.empty w b n A) := hb
  have hm := ha.2.1
  clear ha hb
  go_enter Tryd.func37, Tryd.ntmps37
  go_wp2
  go_loopw [13] (fun s wr => ∃ (j k : Nat), s = .int .i64 j ∧ j ≤ n ∧ wr = w.drewN k) (fun s _ => n - (intOf s).toNat)
  case atStart => exact ⟨0, 0, rfl, Nat.zero_le _, rfl⟩
  case round =>
    obtain ⟨j, k, rfl, hj, rfl⟩ := hrel
    by_cases hlt : j < n
    · obtain ⟨b1, o1, ha, hb1, _, hc1⟩ := HA.out.get j hlt
      obtain ⟨b2, o2, hb, hb2, _, hc2⟩ := HB.out.get j hlt
      subst ha hb
      have x1 : (w.drewN k).cell? ⟨b1, o1 + j, none⟩ = some (.string (A.getD j ByteArray.empty)) := by have := hc1 0 (by omega); simpa [encS] using this
      have x2 : (w.drewN k).cell? ⟨b2, o2 + j, none⟩ = some (.string (A.getD j ByteArray.empty)) := by have := hc2 0 (by omega); simpa [encS] using this
      have l1 : b1 < (w.drewN k).heap.size := hb1
      have l2 : b2 < (w.drewN k).heap.size := hb2
      clear hc1 hc2
      generalize A.getD j ByteArray.empty = s at x1 x2
      generalize hW : w.drewN k = W at *
      have hj0 : (0 : Int) ≤ (j : Int) := Int.natCast_nonneg _
      have hj1 : (j : Int) < (n : Int) := by omega
      have HW : Hid (w.drewN k = W) := hW
      clear hW
      go_wp2_with fail
      go_quiet (fail)
      go_wp2
      go_roundw
      case rel => exact ⟨j + 1, k + nq, by go_num, by omega, by rw [← HW.out]; simp [World.drewN, Nat.add_assoc]⟩
      case measure => simp [intOf]; omega
    · have hj1 : ¬ (j : Int) < (n : Int) := by omega
      go_wp2
      go_ret
      exact ⟨rfl, ⟨rfl, rfl, rfl, Nat.le_refl _, fun _ _ => rfl⟩⟩

set_option maxRecDepth 100000 in
set_option maxHeartbeats 4000000 in
theorem same15 (m : Mg) (fa fb : Option Addr) (fc fd : Nat) (va vb : Option Addr) (vc vd : Nat) (w : World) (hf : InRow 1 encS okS ByteArray.empty w fa m.fl.length m.fl) (hg : InRow 1 encS okS ByteArray.empty w fb m.fl.length m.fl)
    (hv : InRow 2 Vl.cells Vl.ok vl0 w va m.vl.length m.vl) (hu : InRow 2 Vl.cells Vl.ok vl0 w vb m.vl.length m.vl) :
    Calls Tryd.prog 16 #[m.val fa fc va vc, m.val fb fd vb vd] w fun e w' => e = .returned (.bool true) ∧ Below w.heap.size w w' := by
  unfold Mg.val
  obtain ⟨W1, hW1⟩ : ∃ W1, W1 = (w.alloc (.cells #[.int .i64 m.kind, .string m.group, .bool m.any, .slice fa m.fl.length fc, .int .i64 m.pub, .int .i64 m.seq, .int .i64 m.hops, .slice va m.vl.length vc, .string m.pay] 37)).alloc (.cells #[.int .i64 m.kind, .string m.group, .bool m.any, .slice fb m.fl.length fd, .int .i64 m.pub, .int .i64 m.seq, .int .i64 m.hops, .slice vb m.vl.length vd, .string m.pay] 37) := ⟨_, rfl⟩
  have b1 : Below w.heap.size w W1 := by rw [hW1]; exact below2 _ _ _
  have p1 : W1.heap[w.heap.size]? = some (.cells #[.int .i64 m.kind, .string m.group, .bool m.any, .slice fa m.fl.length fc, .int .i64 m.pub, .int .i64 m.seq, .int .i64 m.hops, .slice va m.vl.length vc, .string m.pay] 37 (0, 0)) := by rw [hW1, Below.heap_alloc _ _ _ (by simp)]; exact heap_alloc_new w _
  have q1 : W1.heap[w.heap.size + 1]? = some (.cells #[.int .i64 m.kind, .string m.group, .bool m.any, .slice fb m.fl.length fd, .int .i64 m.pub, .int .i64 m.seq, .int .i64 m.hops, .slice vb m.vl.length vd, .string m.pay] 37 (0, 0)) := by
    rw [hW1]; have := heap_alloc_new (w.alloc (.cells #[.int .i64 m.kind, .string m.group, .bool m.any, .slice fa m.fl.length fc, .int .i64 m.pub, .int .i64 m.seq, .int .i64 m.hops, .slice va m.vl.length vc, .string m.pay] 37)) (.cells #[.int .i64 m.kind, .string m.group, .bool m.any, .slice fb m.fl.length fd, .int .i64 m.pub, .int .i64 m.seq, .int .i64 m.hops, .slice vb m.vl.length vd, .string m.pay] 37); simpa using this
  obtain ⟨x0, x1, x2, x3, x4, x5, x6, x7, x8⟩ := cells9 p1
  obtain ⟨y0, y1, y2, y3, y4, y5, y6, y7, y8⟩ := cells9 q1
  have xl := lt_of_block p1
  have yl := lt_of_block q1
  have HF : Hid (InRow 1 encS okS ByteArray.empty W1 fa m.fl.length m.fl ∧ InRow 1 encS okS ByteArray.empty W1 fb m.fl.length m.fl) := ⟨hf.below (Nat.le_refl _) b1, hg.below (Nat.le_refl _) b1⟩
  have HV : Hid (InRow 2 Vl.cells Vl.ok vl0 W1 va m.vl.length m.vl ∧ InRow 2 Vl.cells Vl.ok vl0 W1 vb m.vl.length m.vl) := ⟨hv.below (Nat.le_refl _) b1, hu.below (Nat.le_refl _) b1⟩
  have hvn := hv.2.1
  have HBW : Hid (Below w.heap.size w W1) := b1
  clear hf hg hv hu p1 q1 b1
  go_enter Tryd.func16, Tryd.ntmps16
  go_upto_region 1 with fail
  rw [← hW1]
  clear hW1
  go_wp2
  go_loopw [65] (fun s wr => ∃ (j k : Nat), s = .int .i64 j ∧ j ≤ m.vl.length ∧ wr = W1.drewN k) (fun s _ => m.vl.length - (intOf s).toNat)
  case atStart => exact ⟨0, 0, rfl, Nat.zero_le _, rfl⟩
  case round =>
    obtain ⟨j, k, rfl, hj, rfl⟩ := hrel
    have z3 : (W1.drewN k).cell? ⟨w.heap.size, 3, none⟩ = some (.slice fa m.fl.length fc) := x3
    have t3 : (W1.drewN k).cell? ⟨w.heap.size + 1, 3, none⟩ = some (.slice fb m.fl.length fd) := y3
    have z7 : (W1.drewN k).cell? ⟨w.heap.size, 7, none⟩ = some (.slice va m.vl.length vc) := x7
    have t7 : (W1.drewN k).cell? ⟨w.heap.size + 1, 7, none⟩ = some (.slice vb m.vl.length vd) := y7
    have zl : w.heap.size < (W1.drewN k).heap.size := xl
    have tl : w.heap.size + 1 < (W1.drewN k).heap.size := yl
    by_cases hlt : j < m.vl.length
    · obtain ⟨b1, o1, ha, hb1, _, hc1⟩ := HV.out.1.get j hlt
      obtain ⟨b2, o2, hb, hb2, _, hc2⟩ := HV.out.2.get j hlt
      subst ha hb
      have r10 : (W1.drewN k).cell? ⟨b1, o1 + j * 2, none⟩ = some (.int .i64 (m.vl.getD j vl0).num) := by have := hc1 0 (by omega); simpa [Vl.cells] using this
      have r11 : (W1.drewN k).cell? ⟨b1, o1 + j * 2 + 1, none⟩ = some (.string (m.vl.getD j vl0).str) := by have := hc1 1 (by omega); simpa [Vl.cells] using this
      have r20 : (W1.drewN k).cell? ⟨b2, o2 + j * 2, none⟩ = some (.int .i64 (m.vl.getD j vl0).num) := by have := hc2 0 (by omega); simpa [Vl.cells] using this
      have r21 : (W1.drewN k).cell? ⟨b2, o2 + j * 2 + 1, none⟩ = some (.string (m.vl.getD j vl0).str) := by have := hc2 1 (by omega); simpa [Vl.cells] using this
      have l1 : b1 < (W1.drewN k).heap.size := hb1
      have l2 : b2 < (W1.drewN k).heap.size := hb2
      clear hc1 hc2
      generalize m.vl.getD j vl0 = s at r10 r11 r20 r21
      generalize hW : W1.drewN k = W at *
      have hj0 : (0 : Int) ≤ (j : Int) := Int.natCast_nonneg _
      have hj1 : (j : Int) < (m.vl.length : Int) := by omega
      have HW : Hid (W1.drewN k = W) := hW
      clear hW
      go_wp2_with fail
      go_quiet (fail)
      go_wp2
      go_roundw
      case rel => exact ⟨j + 1, k + nq, by go_num, by omega, by rw [← HW.out]; simp [World.drewN, Nat.add_assoc]⟩
      case measure => simp [intOf]; omega
    · have hj1 : ¬ (j : Int) < (m.vl.length : Int) := by omega
      have ct := texts15 fa fb m.fl.length fc fd m.fl (W1.drewN k) (HF.out.1.drewN k) (HF.out.2.drewN k)
      go_wp2_with fail
      refine ct.mono ?_
      rintro e w2 ⟨rfl, hb2⟩
      go_wp2
      go_ret
      have hB := HBW.out
      have h0 : Below w.heap.size w (W1.drewN k) := ⟨hB.os, hB.tape, hB.output, hB.size, hB.block⟩
      exact ⟨rfl, h0.trans (hb2.mono h0.size)⟩

/-- As the document has it. -/
def tolM (m : Mg) : Mg := ⟨m.kind, m.group, m.any, m.fl, m.pub, m.seq, m.hops, (m.vl.take 6).map cutV, m.pay⟩

set_option maxRecDepth 100000 in
set_option maxHeartbeats 4000000 in
theorem told15 (m : Mg) (fa : Option Addr) (fc : Nat) (va : Option Addr) (vc : Nat) (w : World) (hv : InRow 2 Vl.cells Vl.ok vl0 w va m.vl.length m.vl) (hp : m.pay.size ≤ maxLen) :
    Calls Tryd.prog 8 #[m.val fa fc va vc] w fun e w' => ∃ va' vc', e = .returned ((tolM m).val fa fc va' vc') ∧ InRow 2 Vl.cells Vl.ok vl0 w' va' (tolM m).vl.length (tolM m).vl ∧ Below w.heap.size w w' := by
  unfold Mg.val
  obtain ⟨W1, hW1⟩ : ∃ W1, W1 = (w.alloc (.cells #[.int .i64 m.kind, .string m.group, .bool m.any, .slice fa m.fl.length fc, .int .i64 m.pub, .int .i64 m.seq, .int .i64 m.hops, .slice va m.vl.length vc, .string m.pay] 27)).alloc (.cells #[.int .i64 0, .string ⟨#[]⟩, .bool false, .slice none 0 0, .int .i64 0, .int .i64 0, .int .i64 0, .slice none 0 0, .string ⟨#[]⟩] 37) := ⟨_, rfl⟩
  have b1 : Below w.heap.size w W1 := by rw [hW1]; exact below2 _ _ _
  have p1 : W1.heap[w.heap.size]? = some (.cells #[.int .i64 m.kind, .string m.group, .bool m.any, .slice fa m.fl.length fc, .int .i64 m.pub, .int .i64 m.seq, .int .i64 m.hops, .slice va m.vl.length vc, .string m.pay] 27 (0, 0)) := by rw [hW1, Below.heap_alloc _ _ _ (by simp)]; exact heap_alloc_new w _
  have q1 : W1.heap[w.heap.size + 1]? = some (.cells #[.int .i64 0, .string ⟨#[]⟩, .bool false, .slice none 0 0, .int .i64 0, .int .i64 0, .int .i64 0, .slice none 0 0, .string ⟨#[]⟩] 37 (0, 0)) := by
    rw [hW1]; have := heap_alloc_new (w.alloc (.cells #[.int .i64 m.kind, .string m.group, .bool m.any, .slice fa m.fl.length fc, .int .i64 m.pub, .int .i64 m.seq, .int .i64 m.hops, .slice va m.vl.length vc, .string m.pay] 27)) (.cells #[.int .i64 0, .string ⟨#[]⟩, .bool false, .slice none 0 0, .int .i64 0, .int .i64 0, .int .i64 0, .slice none 0 0, .string ⟨#[]⟩] 37); simpa using this
  have s1 : W1.heap.size = w.heap.size + 2 := by rw [hW1]; simp
  have x7 : W1.cell? ⟨w.heap.size, 7, none⟩ = some (.slice va m.vl.length vc) := blk_cell (j := 7) p1 (by simp)
  have x8 : W1.cell? ⟨w.heap.size, 8, none⟩ = some (.string m.pay) := blk_cell (j := 8) p1 (by simp)
  have xl := lt_of_block p1
  have HVr : Hid (InRow 2 Vl.cells Vl.ok vl0 W1 va m.vl.length m.vl) := hv.below (Nat.le_refl _) b1
  have cev := ev_any va m.vl.length vc m.pay m.vl W1 HVr.out hp
  clear hv
  go_enter Tryd.func8, Tryd.ntmps8
  go_upto_region 1 with fail
  rw [← hW1]
  clear hW1
  go_wp2_with fail
  refine cev.mono ?_
  rintro e w5 ⟨v1, v2, rfl, ho1, ho2, hap, hb5⟩
  obtain ⟨va1, vc1, hv1⟩ := own_shape ho1
  obtain ⟨va2, vc2, hv2⟩ := own_shape ho2
  generalize hn1 : ((m.vl.take 6).map cutV).length = n1 at *
  subst hv1 hv2
  have hs5 := hb5.size
  obtain ⟨w6, hw6⟩ : ∃ w6, w6 = w5.alloc (.cells #[.slice va1 n1 vc1, .string (cut m.pay 210)] 25) := ⟨_, rfl⟩
  have b6 : Below w5.heap.size w5 w6 := by rw [hw6]; exact below1 _ _
  have p6 := (b6.block _ (by omega)).trans ((hb5.block _ (by omega)).trans p1)
  have q6 := (b6.block _ (by omega)).trans ((hb5.block _ (by omega)).trans q1)
  go_upto_region 2 with fail
  rw [← hw6]
  clear hw6 x7 x8 xl cev p1 q1
  obtain ⟨x0, x1, x2, x3, x4, x5, x6, x7, x8⟩ := cells9 p6
  obtain ⟨z0, z1, z2, z3, z4, z5, z6, z7, z8⟩ := cells9 q6
  have xl := lt_of_block p6
  have zf := frozen9 q6
  have zl := lt_of_block q6
  obtain ⟨W9, hW9⟩ : ∃ W9, W9 = sets9 w6 (w.heap.size + 1) (.int .i64 m.kind) (.string m.group) (.bool m.any) (.slice fa m.fl.length fc) (.int .i64 m.pub) (.int .i64 m.seq) (.int .i64 m.hops) (.slice va2 n1 vc2) (.string m.pay) := ⟨_, rfl⟩
  have b9 : W9.heap[w.heap.size + 1]? = _ := (congrArg (fun W : World => W.heap[w.heap.size + 1]?) hW9).trans (sets9_box q6)
  obtain ⟨y0, y1, y2, y3, y4, y5, y6, y7, y8⟩ := cells9 b9
  have o9 : ∀ k, k ≠ w.heap.size + 1 → W9.heap[k]? = w6.heap[k]? := fun k hk => by rw [hW9]; exact sets9_other hk
  have n9 : w6.heap.size ≤ W9.heap.size := by rw [hW9, sets9_size]; exact Nat.le_refl _
  have e9 : W9.os = w6.os ∧ W9.tape = w6.tape ∧ W9.output = w6.output := by rw [hW9]; exact sets9_rest
  have H9 : Hid ((((((((((w6.setCell ⟨w.heap.size + 1, 0, none⟩ (.int .i64 m.kind)).setCell ⟨w.heap.size + 1, 1, none⟩ (.string m.group)).setCell ⟨w.heap.size + 1, 2, none⟩ (.bool m.any)).setCell ⟨w.heap.size + 1, 3, none⟩ (.slice fa m.fl.length fc)).setCell ⟨w.heap.size + 1, 4, none⟩ (.int .i64 m.pub)).setCell ⟨w.heap.size + 1, 5, none⟩ (.int .i64 m.seq)).setCell ⟨w.heap.size + 1, 6, none⟩ (.int .i64 m.hops)).setCell ⟨w.heap.size + 1, 7, none⟩ (.slice va2 n1 vc2)).setCell ⟨w.heap.size + 1, 8, none⟩ (.string m.pay)) = W9) := hW9.symm
  clear hW9 b9
  go_wp2
  rw [H9.out]
  refine bodyPost_ret (v := .agg #[.int .i64 m.kind, .string m.group, .bool m.any, .slice fa m.fl.length fc, .int .i64 m.pub, .int .i64 m.seq, .int .i64 m.hops, .slice va2 n1 vc2, .string m.pay]) (by simp [results, Tryd.results8, go_sem, y0, y1, y2, y3, y4, y5, y6, y7, y8]) rfl ⟨va2, vc2, ?_, ?_, ?_⟩
  · show _ = Ending.returned (.agg #[.int .i64 m.kind, .string m.group, .bool m.any, .slice fa m.fl.length fc, .int .i64 m.pub, .int .i64 m.seq, .int .i64 m.hops, .slice va2 ((m.vl.take 6).map cutV).length vc2, .string m.pay])
    rw [hn1]
  · show InRow 2 Vl.cells Vl.ok vl0 W9 va2 ((m.vl.take 6).map cutV).length ((m.vl.take 6).map cutV)
    refine (own_in Vl.cells Vl.ok 2 Vl.cells_len vl0 (a := va2) (c := vc2) (B := W1.heap.size) (e := 52) ?_ (fun f hf => ?_) ?_).1
    · rw [hn1]
      exact row_mv ho2 (fun k hk => by
        have h1 := ho2.lt k hk
        exact (o9 k (by omega)).trans (b6.block k h1.2))
    · obtain ⟨f0, h0, rfl⟩ := List.mem_map.1 hf
      have hok := vl_mem HVr.out (List.mem_of_mem_take h0)
      exact ⟨hok.1, by show (cut f0.str 50).size ≤ _; have := cut_size f0.str 50; omega⟩
    · rw [List.length_map, List.length_take]; omega
  · refine ⟨e9.1.trans (b6.os.trans (hb5.os.trans b1.os)), e9.2.1.trans (b6.tape.trans (hb5.tape.trans b1.tape)), e9.2.2.trans (b6.output.trans (hb5.output.trans b1.output)), by have := b6.size; omega, fun k hk => ?_⟩
    exact (o9 k (by omega)).trans ((b6.block k (by omega)).trans ((hb5.block k (by omega)).trans (b1.block k hk)))
end Go.Proofs.YtakfinccoffplaaDoor
