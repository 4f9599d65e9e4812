/- What msg.readWish does. -/
import Derived.Test.YtakfinccoffplaaDoorMsRd1
import Derived.Test.YtakfinccoffplaaDoorMsChk
import Derived.Test.YtakfinccoffplaaDoorValEv
import Derived.Deep.CutBlock
import Derived.Deep.DeepCutAuto
import Derived.Deep.LoopGhost
import Derived.Deep.AppendLies
import Derived.Deep.RegionLaw
namespace Go.Proofs.YtakfinccoffplaaDoor
open Go.ChangeShapes Go.WideShapes Go.ChangeAt Go.RowKit
set_option linter.unusedVariables false

theorem Tryd.infoSt : (Tryd.prog.info? 9).map (fun i => (i.zero, i.size, i.bytes)) = some (some (.string ByteArray.empty), 1, 16) := by kernel_rfl
theorem set_other {w : World} {p o k : Nat} (h : k ≠ p) (v : Value) : (w.setCell ⟨p, o, none⟩ v).heap[k]? = w.heap[k]? := Below.heap_setCell _ _ _ _ h
theorem row_mv {w w' : World} {B : Nat} {e : TypeId} {k n : Nat} {vs : Value} {xs : List Value} (h : w.ownsRow B e k vs n xs) (hb : ∀ x, vs.ownBlock = some x → w'.heap[x]? = w.heap[x]?) : w'.ownsRow B e k vs n xs := by
  refine ⟨h.1, ?_⟩
  rcases h.2 with h1 | ⟨g', cap, cur, hv, hbg, hg, hr⟩
  · exact .inl h1
  · exact .inr ⟨g', cap, cur, hv, hbg, (hb g' (by rw [hv]; rfl)).trans hg, hr⟩
theorem same_drew {w w' : World} {q : Nat} (h : Same w.drew w' q) : Same w w' q := ⟨h.os, h.tape, h.output, h.size, h.block⟩

/-- A message that is being read: its box z, its filters so far. -/
structure Ws (w0 wr : World) (q z : Nat) (s g : ByteArray) (k : Int) (any : Bool) (v : Value) (n : Nat) (fs : List ByteArray) (st : PS) : Prop where
  rd : RdL wr q s st
  box : wr.heap[z]? = some (.cells #[.int .i64 k, .string g, .bool any, v, .int .i64 0, .int .i64 0, .int .i64 0, .slice none 0 0, .string ⟨#[]⟩] 27 (0, 0))
  row : wr.ownsRow w0.heap.size 9 1 v n (fs.map Value.string)
  os : wr.os = w0.os
  tape : wr.tape = w0.tape
  output : wr.output = w0.output
  size : w0.heap.size ≤ wr.heap.size
  blk : ∀ k, k < w0.heap.size → k ≠ q → k ≠ z → wr.heap[k]? = w0.heap[k]?

theorem Ws.step {w0 wr w' w6 : World} {q z : Nat} {s g : ByteArray} {k : Int} {any : Bool} {av : Option Addr} {n c gg cap : Nat} {fs : List ByteArray} {st st' : PS} {t : ByteArray}
    (H : Ws w0 wr q z s g k any (.slice av n c) n fs st) (hq : q < w0.heap.size) (hz : z < w0.heap.size) (hqz : q ≠ z) (hS : Same wr w' q) (hR : RdL w' q s st')
    (hown : w6.ownsRow w0.heap.size 9 1 (.slice (some ⟨gg, 0, none⟩) (n + 1) cap) (n + 1) (fs.map Value.string ++ [.string t]))
    (hg : (w'.alloc (.cells #[.string t] 9)).grownBy w6 (Value.slice av n c).ownBlock) :
    Ws w0 (w6.setCell ⟨z, 3, none⟩ (.slice (some ⟨gg, 0, none⟩) (n + 1) cap)) q z s g k any (.slice (some ⟨gg, 0, none⟩) (n + 1) cap) (n + 1) (fs ++ [t]) st' := by
  have hsz := H.size
  have hsw := hS.size
  have hbk : ∀ k, k < wr.heap.size → k ≠ q → (Value.slice av n c).ownBlock ≠ some k → w6.heap[k]? = wr.heap[k]? := fun k hk hkq hne =>
    (hg.block k (by simp; omega) (fun e => hne e.symm)).trans ((Below.heap_alloc w' _ k (by omega)).trans (hS.block k hkq))
  have hold : ∀ k, k < w0.heap.size → (Value.slice av n c).ownBlock ≠ some k := fun k hk e => by have := (H.row.lt k e).1; omega
  have hggB : w0.heap.size ≤ gg := (hown.lt gg rfl).1
  refine ⟨?_, ?_, ?_, hg.os.trans (hS.os.trans H.os), hg.tape.trans (hS.tape.trans H.tape), hg.output.trans (hS.output.trans H.output), ?_, fun k hk hkq hkz => ?_⟩
  · refine hR.at ?_
    rw [set_other (by omega)]
    exact (hg.block q (by simp; omega) (fun e => hold q hq e.symm)).trans (Below.heap_alloc w' _ q (by omega))
  · have h3 := (hbk z (by omega) (fun e => hqz e.symm) (hold z hz)).trans H.box
    simp only [World.setCell, Array.getElem?_modify]; rw [h3]; simp
  · rw [List.map_append]
    exact row_mv hown (fun k hk => set_other (by simp [Value.ownBlock] at hk; omega) _)
  · have := hg.size; simp at this; simp [World.setCell]; omega
  · rw [set_other (by omega)]
    exact (hbk k (by omega) hkq (hold k hk)).trans (H.blk k hk hkq hkz)

theorem Ws.shape {w0 wr : World} {q z : Nat} {s g : ByteArray} {k : Int} {any : Bool} {v : Value} {n : Nat} {fs : List ByteArray} {st : PS} (H : Ws w0 wr q z s g k any v n fs st) : ∃ a c, v = .slice a n c := by
  rcases H.row.2 with ⟨rfl, hn⟩ | ⟨g, cap, cur, rfl, _⟩
  · exact ⟨none, 0, by rw [hn]⟩
  · exact ⟨_, _, rfl⟩

theorem rwish_bad (q z : Nat) (s : ByteArray) (st : PS) (w : World) (h : RdL w q s st) (hs : s.size ≤ 1970) (hn : (pI st).1 < -1 ∨ 16 < (pI st).1) :
    Calls Tryd.prog 29 #[.pointer (some ⟨q, 0, none⟩), .pointer (some ⟨z, 0, none⟩)] w fun e w' => e = .returned (.iface 40 (.int .i64 11)) ∧ Same w w' q := by
  have hi := h.int (by omega)
  generalize (pI st).1 = n at *
  have hcase : n < -1 ∨ (¬ n < -1 ∧ 16 < n) := by omega
  clear hn
  rcases hcase with h1 | ⟨h1, h2⟩
  all_goals
    go_enter Tryd.func29, Tryd.ntmps29
    go_wp2_with fail
    refine hi.mono ?_
    rintro e w1 ⟨rfl, hR, hS⟩
    go_wp2
    go_ret
    exact ⟨rfl, hS⟩

set_option maxRecDepth 100000 in
set_option maxHeartbeats 2000000 in
theorem rwish_ok (q z : Nat) (s g : ByteArray) (k : Int) (st : PS) (w : World) (h : RdL w q s st) (hs : s.size ≤ 1970) (hz : z < w.heap.size) (hqz : q ≠ z)
    (hbox : w.heap[z]? = some (.cells #[.int .i64 k, .string g, .bool false, .slice none 0 0, .int .i64 0, .int .i64 0, .int .i64 0, .slice none 0 0, .string ⟨#[]⟩] 27 (0, 0)))
    (h1 : ¬ (pI st).1 < -1) (h2 : ¬ 16 < (pI st).1) :
    Calls Tryd.prog 29 #[.pointer (some ⟨q, 0, none⟩), .pointer (some ⟨z, 0, none⟩)] w fun e w' => e = .returned .nilIface ∧
      ∃ v, Ws w w' q z s g k (decide ((pI st).1 = -1)) v (pI st).1.toNat (pTs (pI st).1.toNat (pI st).2).1 (pTs (pI st).1.toNat (pI st).2).2 := by
  obtain ⟨i0, hi0, hz0, hz1, hz2⟩ := info_parts Tryd.infoSt
  have hi := h.int (by omega)
  have hq := h.lt
  generalize (pI st).1 = n at *
  generalize (pI st).2 = st1 at *
  have HD : Hid (decide (n = -1) = (n == -1)) := by show decide (n = -1) = (n == -1); by_cases e : n = -1 <;> simp [e]
  have hd1 : decide (n < -1) = false := decide_eq_false h1
  have hd2 : decide (16 < n) = false := decide_eq_false h2
  obtain ⟨any, ha⟩ : ∃ any, (n == -1) = any := ⟨_, rfl⟩
  rw [HD.out, ha]
  clear HD
  go_enter Tryd.func29, Tryd.ntmps29
  go_wp2_with fail
  refine hi.mono ?_
  rintro e w1 ⟨rfl, hR, hS⟩
  have hb1 := (hS.block z (fun e => hqz e.symm)).trans hbox
  have cf : w1.frozen? ⟨z, 2, none⟩ = false := by simp [World.frozen?, hb1]
  have c2 : w1.cell? ⟨z, 2, none⟩ = some (.bool false) := blk_cell (j := 2) hb1 (by simp)
  have cl := lt_of_block hb1
  have H0 : Ws w (w1.setCell ⟨z, 2, none⟩ (.bool any)) q z s g k any (.slice none 0 0) 0 [] st1 := by
    refine ⟨hR.at (set_other hqz _), ?_, World.ownsRow_nil _ _ _ _, hS.os, hS.tape, hS.output, ?_, fun k hk hkq hkz => ?_⟩
    · simp only [World.setCell, Array.getElem?_modify]; rw [hb1]; simp
    · have := hS.size; simp [World.setCell]; omega
    · rw [set_other hkz]; exact hS.block k hkq
  obtain ⟨W1, hW1⟩ : ∃ W1, W1 = w1.setCell ⟨z, 2, none⟩ (.bool any) := ⟨_, rfl⟩
  rw [← hW1] at H0
  go_wp2
  rw [← hW1]
  clear hb1 hR hS cf c2 cl hbox hi hW1
  have HH : Hid (Ws w W1 q z s g k any (.slice none 0 0) 0 [] st1) := H0
  clear H0
  go_loopw [21] (fun x wr => ∃ (i : Nat) (a : Option Addr) (c : Nat), x = .int .i64 i ∧ i ≤ n.toNat ∧ Hid (Ws w wr q z s g k any (.slice a i c) i (pTs i st1).1 (pTs i st1).2)) (fun x _ => n.toNat - (intOf x).toNat)
  case atStart => exact ⟨0, none, 0, rfl, Nat.zero_le _, HH⟩
  case round =>
    obtain ⟨i, av, c, rfl, hin, R⟩ := hrel
    by_cases hlt : (i : Int) < n
    · have hR := R.out.rd
      have hrow := R.out.row
      have hb3 := R.out.box
      have rl := lt_of_block hb3
      have rq := R.out.rd.lt
      have ct := RdL.text (w := wr.drew) (q := q) (s := s) (st := (pTs i st1).2) hR (by omega) 1970 (by omega)
      have HT : Hid ((pTs (i + 1) st1).1 = (pTs i st1).1 ++ [(pT 1970 (pTs i st1).2).1] ∧ (pTs (i + 1) st1).2 = (pT 1970 (pTs i st1).2).2) := ⟨rfl, rfl⟩
      have c3 : wr.cell? ⟨z, 3, none⟩ = some (.slice av i c) := blk_cell (j := 3) hb3 (by simp)
      have cz : ∀ w2 : World, Same wr w2 q → w2.cell? ⟨z, 3, none⟩ = some (.slice av i c) := fun w2 h2 => by
        rw [World.cell?_of_block (h2.block z (fun e => hqz e.symm))]; exact c3
      go_upto_region 7 with fail
      generalize htt : (pT 1970 (pTs i st1).2).1 = t at *
      generalize hst : (pT 1970 (pTs i st1).2).2 = st2 at *
      have hBr : w.heap.size ≤ wr.heap.size := R.out.size
      clear htt hst hb3
      go_region_law
        (first
          | (refine step_append_lies _ (by rfl) _ _ _ (by rfl) w.heap.size 9 i0 _ 1 16 Tryd.underlying22 hi0 hz0 hz1 hz2 rfl (by omega) _ _ _ (by rfl) (row_mv (w' := w2.alloc (.cells #[.string t] 9)) hrow (fun k hk => (Below.heap_alloc w2 _ _ (by have := (hrow.lt k hk).2; have := hS2.size; omega)).trans (hS2.block k (by have := (hrow.lt k hk).1; omega))))
              ⟨w2.heap.size, 0, none⟩ 1 1 [.string t] (by rfl) (by rfl) (World.news_of_block (cs := #[.string t]) (t := 9) (fr := (0, 0)) (heap_alloc_new w2 _)) (by simp [Value.oneCell'])
              (by omega) (by unfold maxLen; omega) (by omega) (by have := hS2.size; simp; omega) (w2.heap.size + 1) (by simp) ?_; intro gg cap w6 hown1 hgrow hat hlt3
             have hb3 : w6.heap[z]? = _ := (hgrow.block z (by have := hS2.size; simp; omega) (fun e => by have := (hrow.lt z e.symm).1; omega)).trans ((Below.heap_alloc w2 _ z (by have := hS2.size; omega)).trans ((hS2.block z (fun e => hqz e.symm)).trans R.out.box))
             have hf3 : w6.frozen? ⟨z, 3, none⟩ = false := by simp [World.frozen?, hb3]
             have hk3 : w6.cell? ⟨z, 3, none⟩ = some (.slice av i c) := blk_cell (j := 3) hb3 (by simp)
             have hl3' := lt_of_block hb3)
          | (go_simp; go_at_call 28; refine Calls.mono ct ?_; rintro e w2 ⟨rfl, hR2, hS2d⟩; have hS2 := same_drew hS2d; have c32 := cz w2 hS2; have zl2 : z < w2.heap.size := (by rw [hS2.size]; exact rl)))
      all_goals
        have HN : Hid (Ws w (w6.setCell ⟨z, 3, none⟩ (.slice (some ⟨gg, 0, none⟩) (i + 1) cap)) q z s g k any (.slice (some ⟨gg, 0, none⟩) (i + 1) cap) (i + 1) (pTs (i + 1) st1).1 (pTs (i + 1) st1).2) := by
          have := R.out.step hq hz hqz hS2 hR2 hown1 hgrow
          rw [HT.out.1, HT.out.2]; exact this
        clear hown1 hgrow hat hlt3 hb3 hf3 hk3 hl3' c32 hS2 hR2 hS2d R
        go_wp2
        go_roundw
        case rel => exact ⟨i + 1, _, _, by go_num, by omega, HN⟩
        case measure => simp [intOf]; omega
    · obtain rfl : i = n.toNat := by omega
      go_wp2
      go_ret
      exact ⟨rfl, _, R.out⟩
end Go.Proofs.YtakfinccoffplaaDoor
