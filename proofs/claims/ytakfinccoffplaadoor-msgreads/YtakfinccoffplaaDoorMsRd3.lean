/- What msg.readEvent does. -/
import Derived.Test.YtakfinccoffplaaDoorMsRd2
namespace Go.Proofs.YtakfinccoffplaaDoor
open Go.ChangeShapes Go.WideShapes Go.ChangeAt Go.RowKit
set_option linter.unusedVariables false

/-- An event that is being read. -/
structure Es (w0 wr : World) (q : Nat) (s : ByteArray) (v : Value) (n : Nat) (vs : List Vl) (pay : ByteArray) (st : PS) : Prop where
  rd : RdL wr q s st
  res : wr.heap[w0.heap.size]? = some (.cells #[.slice none 0 0, .string ⟨#[]⟩] 25 (0, 0))
  box : wr.heap[w0.heap.size + 1]? = some (.cells #[v, .string pay] 25 (0, 0))
  row : wr.ownsRow (w0.heap.size + 2) 51 2 v n (vs.flatMap Vl.cells)
  os : wr.os = w0.os
  tape : wr.tape = w0.tape
  output : wr.output = w0.output
  size : w0.heap.size + 2 ≤ wr.heap.size
  blk : ∀ k, k < w0.heap.size → k ≠ q → wr.heap[k]? = w0.heap[k]?

theorem Es.same {w0 wr w' : World} {q : Nat} {s pay : ByteArray} {v : Value} {n : Nat} {vs : List Vl} {st st' : PS} (H : Es w0 wr q s v n vs pay st) (hq : q < w0.heap.size) (hS : Same wr w' q) (hR : RdL w' q s st') : Es w0 w' q s v n vs pay st' :=
  ⟨hR, (hS.block _ (by omega)).trans H.res, (hS.block _ (by omega)).trans H.box, row_mv H.row (fun k hk => hS.block k (by have := (H.row.lt k hk).1; omega)), hS.os.trans H.os, hS.tape.trans H.tape, hS.output.trans H.output, by rw [hS.size]; exact H.size, fun k hk hkq => (hS.block k hkq).trans (H.blk k hk hkq)⟩

theorem Es.step {w0 wr w6 : World} {q : Nat} {s pay : ByteArray} {av : Option Addr} {n c gg cap : Nat} {vs : List Vl} {st : PS} {x : Vl}
    (H : Es w0 wr q s (.slice av n c) n vs pay st) (hq : q < w0.heap.size)
    (hown : w6.ownsRow (w0.heap.size + 2) 51 2 (.slice (some ⟨gg, 0, none⟩) (n + 1) cap) (n + 1) (vs.flatMap Vl.cells ++ [.int .i64 x.num, .string x.str]))
    (hg : (wr.alloc (.cells #[.int .i64 x.num, .string x.str] 51)).grownBy w6 (Value.slice av n c).ownBlock) :
    Es w0 (w6.setCell ⟨w0.heap.size + 1, 0, none⟩ (.slice (some ⟨gg, 0, none⟩) (n + 1) cap)) q s (.slice (some ⟨gg, 0, none⟩) (n + 1) cap) (n + 1) (vs ++ [x]) pay st := by
  have hsz := H.size
  have hold : ∀ k, k < w0.heap.size + 2 → (Value.slice av n c).ownBlock ≠ some k := fun k hk e => by have := (H.row.lt k e).1; omega
  have hbk : ∀ k, k < w0.heap.size + 2 → w6.heap[k]? = wr.heap[k]? := fun k hk =>
    (hg.block k (by simp; omega) (fun e => hold k hk e.symm)).trans (Below.heap_alloc wr _ k (by omega))
  have hggB : w0.heap.size + 2 ≤ gg := (hown.lt gg rfl).1
  refine ⟨?_, ?_, ?_, ?_, hg.os.trans H.os, hg.tape.trans H.tape, hg.output.trans H.output, ?_, fun k hk hkq => ?_⟩
  · exact H.rd.at ((set_other (by omega) _).trans (hbk q (by omega)))
  · rw [set_other (by omega)]; exact (hbk _ (by omega)).trans H.res
  · have h3 := (hbk _ (by omega)).trans H.box
    simp only [World.setCell, Array.getElem?_modify]; rw [h3]; simp
  · rw [List.flatMap_append]
    have e : [x].flatMap Vl.cells = [.int .i64 x.num, .string x.str] := by simp [Vl.cells]
    rw [e]
    exact row_mv hown (fun k hk => set_other (by simp [Value.ownBlock] at hk; omega) _)
  · have := hg.size; simp at this; simp [World.setCell]; omega
  · rw [set_other (by omega)]
    exact (hbk k (by omega)).trans (H.blk k hk hkq)

theorem Es.below {w0 wr w' : World} {q : Nat} {s pay : ByteArray} {v : Value} {n : Nat} {vs : List Vl} {st : PS} (H : Es w0 wr q s v n vs pay st) (hq : q < w0.heap.size) (hb : Below wr.heap.size wr w') : Es w0 w' q s v n vs pay st :=
  have hs := H.size
  ⟨H.rd.at (hb.block _ H.rd.lt), (hb.block _ (by omega)).trans H.res, (hb.block _ (by omega)).trans H.box, row_mv H.row (fun k hk => hb.block k (H.row.lt k hk).2), hb.os.trans H.os, hb.tape.trans H.tape, hb.output.trans H.output, Nat.le_trans hs hb.size, fun k hk hkq => (hb.block k (by omega)).trans (H.blk k hk hkq)⟩

set_option maxRecDepth 100000 in
set_option maxHeartbeats 4000000 in
theorem revent_any (q : Nat) (s : ByteArray) (st : PS) (w : World) (h : RdL w q s st) (hs : s.size ≤ 1970) :
    Calls Tryd.prog 30 #[.pointer (some ⟨q, 0, none⟩)] w fun e w' =>
      ∃ v, e = .returned (.agg #[v, .string (pT 1970 (pVs (pB 5 st).1.toNat (pB 5 st).2).2).1]) ∧ w'.ownsRow w.heap.size 51 2 v (pB 5 st).1.toNat ((pVs (pB 5 st).1.toNat (pB 5 st).2).1.flatMap Vl.cells) ∧
        RdL w' q s (pT 1970 (pVs (pB 5 st).1.toNat (pB 5 st).2).2).2 ∧ Adds w w' q := by
  obtain ⟨i0, hi0, hz0, hz1, hz2⟩ := info_parts Tryd.infoVl
  have hq := h.lt
  obtain ⟨W1, hW1⟩ : ∃ W1, W1 = (w.alloc (.cells #[.slice none 0 0, .string ⟨#[]⟩] 25)).alloc (.cells #[.slice none 0 0, .string ⟨#[]⟩] 25) := ⟨_, rfl⟩
  have H1 : Es w W1 q s (.slice none 0 0) 0 [] ⟨#[]⟩ st := by
    rw [hW1]
    refine ⟨h.at ((Below.heap_alloc _ _ _ (by simp; omega)).trans (Below.heap_alloc _ _ _ hq)), ?_, ?_, World.ownsRow_nil _ _ _ _, rfl, rfl, rfl, by simp, fun k hk _ => ?_⟩
    · rw [Below.heap_alloc _ _ _ (by simp)]; exact heap_alloc_new w _
    · have := heap_alloc_new (w.alloc (.cells #[.slice none 0 0, .string ⟨#[]⟩] 25)) (.cells #[.slice none 0 0, .string ⟨#[]⟩] 25); simpa using this
    · rw [Below.heap_alloc _ _ _ (by simp; omega), Below.heap_alloc _ _ _ hk]
  have hr := pB_range 5 st (by omega)
  have hB := H1.rd.below5 (by omega)
  generalize (pB 5 st).1 = n at *
  generalize (pB 5 st).2 = st1 at *
  go_enter Tryd.func30, Tryd.ntmps30
  go_wp2_with fail
  rw [← hW1]
  refine hB.mono ?_
  rintro e w2 ⟨rfl, hR2, hS2⟩
  have HH : Hid (Es w w2 q s (.slice none 0 0) 0 [] ⟨#[]⟩ st1) := H1.same hq hS2 hR2
  clear hR2 hS2 H1 hB hW1 h
  go_wp2
  go_loopw [6] (fun x wr => ∃ (i : Nat) (a : Option Addr) (c : Nat), x = .int .i64 i ∧ i ≤ n.toNat ∧ Hid (Es w wr q s (.slice a i c) i (pVs i st1).1 ⟨#[]⟩ (pVs i st1).2)) (fun x _ => n.toNat - (intOf x).toNat)
  case atStart => exact ⟨0, none, 0, rfl, Nat.zero_le _, HH⟩
  case round =>
    obtain ⟨i, av, c, rfl, hin, R⟩ := hrel
    by_cases hlt : (i : Int) < n
    · have hR := R.out.rd
      have hrow := R.out.row
      have hb3 := R.out.box
      have rl := lt_of_block hb3
      have hBr := R.out.size
      have ct := RdL.int (w := wr.drew) (q := q) (s := s) (st := (pVs i st1).2) hR (by omega)
      have cu : ∀ W, RdL W q s (pI (pVs i st1).2).2 → _ := fun W hW => RdL.text (w := W) (q := q) (s := s) (st := (pI (pVs i st1).2).2) hW (by omega) 1970 (by omega)
      have HT : Hid ((pVs (i + 1) st1).1 = (pVs i st1).1 ++ [⟨(pI (pVs i st1).2).1, (pT 1970 (pI (pVs i st1).2).2).1⟩] ∧ (pVs (i + 1) st1).2 = (pT 1970 (pI (pVs i st1).2).2).2) := ⟨rfl, rfl⟩
      have c3 : wr.cell? ⟨w.heap.size + 1, 0, none⟩ = some (.slice av i c) := blk_cell (j := 0) hb3 (by simp)
      have cz : ∀ w2 : World, Same wr w2 q → w2.cell? ⟨w.heap.size + 1, 0, none⟩ = some (.slice av i c) := fun w2 h2 => by
        rw [World.cell?_of_block (h2.block (w.heap.size + 1) (by omega))]; exact c3
      go_upto_region 4 with fail
      generalize hnum : (pI (pVs i st1).2).1 = num at *
      generalize hst1 : (pI (pVs i st1).2).2 = st2 at *
      generalize htt : (pT 1970 st2).1 = t at *
      generalize hst3 : (pT 1970 st2).2 = st3 at *
      clear htt hst1 hnum hst3 hb3
      go_region_law
        (first
          | (refine step_append_lies _ (by rfl) _ _ _ (by rfl) (w.heap.size + 2) 51 i0 _ 2 24 Tryd.underlying23 hi0 hz0 hz1 hz2 rfl (by omega) _ _ _ (by rfl) (row_mv (w' := w3.alloc (.cells #[.int .i64 num, .string t] 51)) hrow (fun k hk => (Below.heap_alloc w3 _ _ (by have := (hrow.lt k hk).2; have := hS3.size; omega)).trans (hS3.block k (by have := (hrow.lt k hk).1; omega))))
              ⟨w3.heap.size, 0, none⟩ 1 1 [.int .i64 num, .string t] (by rfl) (by rfl) (World.news_of_block (cs := #[.int .i64 num, .string t]) (t := 51) (fr := (0, 0)) (heap_alloc_new w3 _)) (by simp [Value.oneCell'])
              (by omega) (by unfold maxLen; omega) (by omega) (by have := hS3.size; simp; omega) (w3.heap.size + 1) (by simp) ?_; intro gg cap w6 hown1 hgrow hat hlt3
             have E3 : Es w w3 q s (.slice av i c) i (pVs i st1).1 ⟨#[]⟩ st3 := R.out.same hq hS3 hR3
             have hb3 : w6.heap[w.heap.size + 1]? = _ := (hgrow.block (w.heap.size + 1) (by have := hS3.size; simp; omega) (fun e => by have := (hrow.lt _ e.symm).1; omega)).trans ((Below.heap_alloc w3 _ (w.heap.size + 1) (by have := hS3.size; omega)).trans E3.box)
             have hf3 : w6.frozen? ⟨w.heap.size + 1, 0, none⟩ = false := by simp [World.frozen?, hb3]
             have hk3 : w6.cell? ⟨w.heap.size + 1, 0, none⟩ = some (.slice av i c) := blk_cell (j := 0) hb3 (by simp)
             have hl3' := lt_of_block hb3)
          | (go_simp; go_at_call 27; refine Calls.mono ct ?_; rintro e w2 ⟨rfl, hR2, hS2d⟩; have hS2 := same_drew hS2d; have c32 := cz w2 hS2; have zl2 : w.heap.size + 1 < w2.heap.size := (by rw [hS2.size]; exact rl))
          | (go_simp; go_at_call 28; refine Calls.mono (cu _ hR2) ?_; rintro e w3 ⟨rfl, hR3, hS3d⟩; have hS3 := hS2.trans hS3d; have c33 := cz w3 hS3; have zl3 : w.heap.size + 1 < w3.heap.size := (by rw [hS3.size]; exact rl)))
      all_goals
        have HN : Hid (Es w (w6.setCell ⟨w.heap.size + 1, 0, none⟩ (.slice (some ⟨gg, 0, none⟩) (i + 1) cap)) q s (.slice (some ⟨gg, 0, none⟩) (i + 1) cap) (i + 1) (pVs (i + 1) st1).1 ⟨#[]⟩ (pVs (i + 1) st1).2) := by
          have := E3.step (x := ⟨num, t⟩) hq hown1 hgrow
          rw [HT.out.1, HT.out.2]; exact this
        clear hown1 hgrow hat hlt3 hb3 hf3 hk3 hl3' c32 c33 hS2 hR2 hS2d hS3 hR3 hS3d R E3
        go_wp2
        go_roundw
        case rel => exact ⟨i + 1, _, _, by go_num, by omega, HN⟩
        case measure => simp [intOf]; omega
    · obtain rfl : i = n.toNat := by omega
      have ct := RdL.text (w := wr) R.out.rd (by omega) 1970 (by omega)
      generalize htt : (pT 1970 (pVs n.toNat st1).2).1 = t at ct
      generalize hs3 : (pT 1970 (pVs n.toNat st1).2).2 = st3 at ct
      have HT : Hid ((pT 1970 (pVs n.toNat st1).2).1 = t ∧ (pT 1970 (pVs n.toNat st1).2).2 = st3) := ⟨htt, hs3⟩
      clear htt hs3
      go_wp2_with fail
      refine ct.mono ?_
      rintro e w3 ⟨rfl, hR3, hS3⟩
      have E3 := R.out.same hq hS3 hR3
      have hbx := E3.box
      have hre := E3.res
      have k0 : w3.cell? ⟨w.heap.size + 1, 0, none⟩ = some _ := blk_cell (j := 0) hbx (by simp)
      have k1 : w3.cell? ⟨w.heap.size + 1, 1, none⟩ = some _ := blk_cell (j := 1) hbx (by simp)
      have kf : ∀ o, w3.frozen? ⟨w.heap.size + 1, o, none⟩ = false := fun o => by simp [World.frozen?, hbx]
      have r0 : w3.cell? ⟨w.heap.size, 0, none⟩ = some _ := blk_cell (j := 0) hre (by simp)
      have r1 : w3.cell? ⟨w.heap.size, 1, none⟩ = some _ := blk_cell (j := 1) hre (by simp)
      have rf : ∀ o, w3.frozen? ⟨w.heap.size, o, none⟩ = false := fun o => by simp [World.frozen?, hre]
      have kl := lt_of_block hbx
      have rl := lt_of_block hre
      have hrow3 := E3.row
      have hbl3 := E3.blk
      have hgt : ∀ k, (Value.slice av n.toNat c).ownBlock = some k → w.heap.size + 2 ≤ k := fun k hk => (hrow3.lt k hk).1
      have hsz3 := E3.size
      have HO : Hid (w3.os = w.os ∧ w3.tape = w.tape ∧ w3.output = w.output) := ⟨E3.os, E3.tape, E3.output⟩
      clear E3 hbx hre
      go_wp2
      refine bodyPost_ret (v := .agg #[.slice av n.toNat c, .string t]) (by simp [results, Tryd.results30, go_sem, r0, r1]) rfl ⟨_, by rw [HT.out.1], ?_, ?_, ?_⟩
      · exact own_base (row_mv hrow3 (fun k hk => by have := hgt k hk; rw [set_other (by omega), set_other (by omega), set_other (by omega)])) (by omega)
      · rw [HT.out.2]
        exact hR3.at (by rw [set_other (by omega), set_other (by omega), set_other (by omega)])
      · refine ⟨HO.out.1, HO.out.2.1, HO.out.2.2, by simp [World.setCell]; omega, fun k hk hkq => ?_⟩
        rw [set_other (by omega), set_other (by omega), set_other (by omega)]
        exact hbl3 k hk hkq
end Go.Proofs.YtakfinccoffplaaDoor
