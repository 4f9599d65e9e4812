/- Of, whole. -/
import Derived.Test.YtmajlldfiiokoaaGreatDoorJoinChOwn
import Derived.Deep.CutBlock
import Derived.Deep.DeepCutAuto
import Derived.Deep.LoopGhost
import Derived.Deep.RegionHeld3
import Derived.Deep.AppendLies
namespace Go.Proofs.YtmajlldfiiokoaaGreatDoor
open Go.ChangeShapes Go.WideShapes Go.ChangeAt Go.RowKit Go.Deep
set_option linter.unusedVariables false

def cellP (n : Int) : Value := .int .u64 n
theorem live_withCl (R : Rg) (D : Nat → Prop) (k : Nat) : (R.withCl D).liveTo k = R.liveTo k := by
  induction k with
  | zero => rfl
  | succ k ih => unfold Rg.liveTo; rw [ih]; rfl
theorem blk_lt {w : World} {p : Nat} {o : Obj} (h : w.heap[p]? = some o) : p < w.heap.size := by
  rcases Nat.lt_or_ge p w.heap.size with q | q
  · exact q
  · rw [Array.getElem?_eq_none q] at h; cases h
theorem pair_set1 {w : World} {p : Nat} {a b : Value} {t : TypeId} (h : w.heap[p]? = some (.cells #[a, b] t (0, 0))) (u : Value) : (w.setCell ⟨p, 1, none⟩ u).heap[p]? = some (.cells #[a, u] t (0, 0)) := by
  have hlt := blk_lt h
  have h' : w.heap[p] = .cells #[a, b] t (0, 0) := by simpa [Array.getElem?_eq_getElem hlt] using h
  show (w.heap.modify p _)[p]? = _
  rw [Array.getElem?_eq_getElem (by simpa using hlt), Array.getElem_modify_self, h']
  rfl
theorem row_setCell {w : World} {B n : Nat} {e : TypeId} {v : Value} {xs : List Value} (h : w.ownsRow B e 1 v n xs) {p o : Nat} (hp : v.ownBlock ≠ some p) (u : Value) : (w.setCell ⟨p, o, none⟩ u).ownsRow B e 1 v n xs := by
  refine ⟨h.1, ?_⟩
  rcases h.2 with h0 | ⟨g, cap, cur, hv, hb, hg, q⟩
  · exact .inl h0
  · refine .inr ⟨g, cap, cur, hv, hb, ?_, q⟩
    rw [Below.heap_setCell _ _ _ _ (by show g ≠ p; intro e; apply hp; rw [hv, e]; rfl)]
    exact hg
theorem InRow.setCell {α : Type} {enc : α → List Value} {ok : α → Prop} {d : α} {k : Nat} {w : World} {a : Option Addr} {n : Nat} {l : List α} (h : InRow k enc ok d w a n l) {p o : Nat} (hp : ∀ x, a = some x → x.block ≠ p) (u : Value) : InRow k enc ok d (w.setCell ⟨p, o, none⟩ u) a n l := by
  refine ⟨h.1, h.2.1, ?_⟩
  rcases h.2.2 with h0 | ⟨b, q, ha, hlt, hc⟩
  · exact .inl h0
  · refine .inr ⟨b, q, ha, by simpa [World.setCell] using hlt, fun i hi => ⟨(hc i hi).1, fun j hj => ?_⟩⟩
    rw [World.cell?_of_block (Below.heap_setCell _ _ _ _ (hp _ ha))]
    exact (hc i hi).2 j hj
theorem InRow.kept {α : Type} {enc : α → List Value} {ok : α → Prop} {d : α} {k : Nat} {w w' : World} {a : Option Addr} {n : Nat} {l : List α} (h : InRow k enc ok d w a n l) (hs : w.heap.size ≤ w'.heap.size) (hb : ∀ x, a = some x → x.block < w.heap.size → w'.heap[x.block]? = w.heap[x.block]?) : InRow k enc ok d w' a n l := by
  refine ⟨h.1, h.2.1, ?_⟩
  rcases h.2.2 with h0 | ⟨b, q, ha, hlt, hc⟩
  · exact .inl h0
  · refine .inr ⟨b, q, ha, Nat.lt_of_lt_of_le hlt hs, fun i hi => ⟨(hc i hi).1, fun j hj => ?_⟩⟩
    rw [World.cell?_of_block (show w'.heap[b]? = w.heap[b]? from hb _ ha hlt)]
    exact (hc i hi).2 j hj
theorem own_ids {w : World} {B n : Nat} {a : Option Addr} {c : Nat} {l : List Int} (h : w.ownsRow B 59 1 (.slice a n c) n (l.map cellP)) (hl : ∀ x ∈ l, u64 x) (hn : n ≤ 9223372036854775807) : IdIn w a n l := by
  have hlen : l.length = n := by have := h.1; simpa using this
  refine ⟨hlen, hn, ?_⟩
  rcases h.2 with ⟨h0, h1⟩ | ⟨g, cap, cur, hv, hb, hg, hnc, _⟩
  · exact .inl h1
  · simp at hv
    obtain ⟨rfl, rfl⟩ := hv
    refine .inr ⟨g, 0, rfl, blk_lt hg, fun i hi => ?_⟩
    have hil : i < l.length := by omega
    have e0 : l.getD i 0 = l[i] := by simp [List.getD, hil]
    refine ⟨by rw [e0]; exact hl _ (List.getElem_mem _), fun j hj => ?_⟩
    obtain rfl : j = 0 := by omega
    have e := h.cells (g := g) rfl i (cellP l[i]) (by simp [hil])
    have ea : (⟨g, 0, none⟩ : Addr).add i = ⟨g, i, none⟩ := by unfold Addr.add; split <;> simp_all
    rw [ea] at e
    rw [e0]
    simpa [cellP, encU] using e
/-- The places so far. -/
structure Pz (w0 w4 wr : World) (r bx cb blk n c : Nat) (C : List Int) (R : Rg) (pv : Value) (k : Nat) : Prop where
  bel : Below w0.heap.size w0 wr
  box : wr.cell? ⟨bx, 0, none⟩ = some (.pointer (some ⟨r, 0, none⟩))
  cir : wr.heap[cb]? = some (.cells #[.slice (some ⟨blk, 0, none⟩) n c, pv] 50 (0, 0))
  row : wr.ownsRow w4.heap.size 59 1 pv k (((C.map R.idOf).take k).map cellP)
  mem : InIn wr (some ⟨blk, 0, none⟩) n C
  siz : w4.heap.size ≤ wr.heap.size
  res : wr.heap[w0.heap.size + 1]? = some (.cells #[.slice none 0 0, .slice none 0 0] 50 (0, 0))

set_option maxRecDepth 100000 in
set_option maxHeartbeats 4000000 in
theorem of_new (r gp gk : Nat) (R : Rg) (w : World) (h : RingAt w r gp gk R) (hi : Inv R) :
    Calls Tryz.prog 18 #[.pointer (some ⟨r, 0, none⟩)] w fun e w' => ∃ C g b c d, e = .returned (.agg #[.slice (some ⟨g, 0, none⟩) R.live.length c, .slice b R.live.length d]) ∧ Cir R C ∧ InIn w' (some ⟨g, 0, none⟩) R.live.length C ∧ R.live.length ≤ c ∧ c ≤ 9223372036854775807 ∧ IdIn w' b R.live.length (C.map R.idOf) ∧ (R.live.length ≤ d ∧ d ≤ 9223372036854775807) ∧ Below w.heap.size w w' ∧ w.heap.size ≤ g ∧ ∀ x, b = some x → w.heap.size ≤ x.block := by
  obtain ⟨i0, hif, hz0, hz1, hz2⟩ := info_of Tryz.infoId
  have H : Hid (RingAt w r gp gk R ∧ Inv R) := ⟨h, hi⟩
  have hll : R.live.length ≤ 32 := liveTo_len R 32
  have h4 := live_four hi
  clear h hi
  obtain ⟨W1, hW1⟩ : ∃ W1, W1 = (w.alloc (.cells #[.pointer (some ⟨r, 0, none⟩)] 25)).alloc (.cells #[.slice none 0 0, .slice none 0 0] 50) := ⟨_, rfl⟩
  have b1 : Hid (Below w.heap.size w W1) := by rw [hW1]; exact (below_one _ _).trans ((below_one _ _).mono (by simp))
  have x0 : W1.cell? ⟨w.heap.size, 0, none⟩ = some (.pointer (some ⟨r, 0, none⟩)) := by
    rw [hW1, World.cell?_alloc_lt _ _ ⟨w.heap.size, 0, none⟩ (by simp)]; simp
  have z1 : W1.heap.size = w.heap.size + 2 := by rw [hW1]; simp
  have hres : W1.heap[w.heap.size + 1]? = some (.cells #[.slice none 0 0, .slice none 0 0] 50 (0, 0)) := by
    rw [hW1]; simpa using heap_alloc_new (w.alloc (.cells #[.pointer (some ⟨r, 0, none⟩)] 25)) (.cells #[.slice none 0 0, .slice none 0 0] 50)
  have xz : w.heap.size < W1.heap.size := by omega
  go_enter Tryz.func18, Tryz.ntmps18
  go_upto_region 1 with fail
  rw [← hW1]
  clear hW1
  go_wp2_with fail
  refine (live_own r gp gk R _ (H.out.1.below b1.out)).mono ?_
  rintro e w2 ⟨a, c, rfl, hrow, hb2⟩
  obtain ⟨blk, hblk, hB, hlt, _⟩ := own_int hrow (i := 0) (by omega)
  subst hblk
  have hcap := own_caps hrow
  obtain ⟨W3, hW3⟩ : ∃ W3, W3 = w2.alloc (.cells #[.slice (some ⟨blk, 0, none⟩) R.live.length c, .slice none 0 0] 50) := ⟨_, rfl⟩
  have b3 : Below w2.heap.size w2 W3 := by rw [hW3]; exact below_one _ _
  have b13 : Below W1.heap.size W1 W3 := hb2.trans (b3.mono hb2.size)
  have s3 : W3.heap.size = w2.heap.size + 1 := by rw [hW3]; simp
  have hs2 := hb2.size
  have q0 := cell_grown x0 b13
  have q3 : W3.heap[w2.heap.size]? = some (.cells #[.slice (some ⟨blk, 0, none⟩) R.live.length c, .slice none 0 0] 50 (0, 0)) := by rw [hW3]; exact heap_alloc_new w2 _
  have u0 : W3.cell? ⟨w2.heap.size, 0, none⟩ = some (.slice (some ⟨blk, 0, none⟩) R.live.length c) := by simp [World.cell?, q3]
  have uz := cell_block u0
  have HR3 : Hid (RingAt W3 r gp gk (R.withCl (fun b => b = blk))) := (H.out.1.below b1.out).fresh H.out.2.lens b13 (by omega) (by omega)
  have hrl := H.out.1.lt
  have SRT : Hid _ := sort_live W1.heap.size r gp gk blk c w.heap.size (R.withCl (fun b => b = blk)) W3 HR3.out (H.out.2.withCl _) rfl (by omega) (by omega) (by omega) q0 (by omega) (by
    have e : (R.withCl (fun b => b = blk)).live = R.live := live_withCl R _ 32
    rw [e]
    exact hrow.kept (row := none) ⟨b3.os, b3.tape, b3.output, b3.size, fun b hb1 _ => b3.block b hb1⟩ (by cases HH : Value.ownBlock _ <;> simp))
  rw [show (R.withCl (fun b => b = blk)).live = R.live from live_withCl R _ 32] at SRT
  have HC3 : Hid (R.live.length ≤ c ∧ c ≤ 9223372036854775807) := hcap
  have HB3 : Hid (Below w.heap.size w W3 ∧ W3.heap[w2.heap.size]? = some (.cells #[.slice (some ⟨blk, 0, none⟩) R.live.length c, .slice none 0 0] 50 (0, 0)) ∧ W3.cell? ⟨w.heap.size, 0, none⟩ = some (.pointer (some ⟨r, 0, none⟩)) ∧ w.heap.size + 2 ≤ blk ∧ blk < w2.heap.size ∧ W3.heap[w.heap.size + 1]? = some (.cells #[.slice none 0 0, .slice none 0 0] 50 (0, 0))) := ⟨b1.out.trans (b13.mono b1.out.size), q3, q0, by omega, hlt, (b13.block _ (by omega)).trans hres⟩
  clear hrow hb2 hB hcap b3 b13 hrl hres
  go_upto_region 2 with fail
  rw [← hW3]
  clear hW3 x0 xz
  go_wp2_with fail
  refine Calls.mono SRT.out ?_
  rintro e w4 ⟨rfl, C, hC, hm4, hs4, hbl4, ho4, ht4, hp4⟩
  have hs4' := hs4
  have HP : Hid (Pz w w4 w4 r w.heap.size w2.heap.size blk R.live.length c C R (.slice none 0 0) 0) := by
    have hB := HB3.out
    refine ⟨⟨ho4.trans hB.1.os, ht4.trans hB.1.tape, hp4.trans hB.1.output, Nat.le_trans hB.1.size hs4, fun b hb => (hbl4 b (by have := hB.1.size; omega) (by omega)).trans (hB.1.block b hb)⟩, ?_, (hbl4 _ (by omega) (by omega)).trans hB.2.1, ?_, hm4, Nat.le_refl _, (hbl4 _ (by omega) (by omega)).trans hB.2.2.2.2.2⟩
    · rw [← hB.2.2.1]
      exact World.cell?_of_block (hbl4 w.heap.size (cell_block hB.2.2.1) (by have := hB.2.2.2.1; omega))
    · simpa using World.ownsRow_nil w4 w4.heap.size 59 1
  have HCC : Hid (Cir R C) := ⟨hC.rise, hC.mem, hC.len.trans (congrArg List.length (live_withCl R _ 32))⟩
  have hk4 := HP.out.cir
  have v0 : w4.cell? ⟨w2.heap.size, 0, none⟩ = some (.slice (some ⟨blk, 0, none⟩) R.live.length c) := by simp [World.cell?, hk4]
  have vz := cell_block v0
  have hz24 : w2.heap.size < w4.heap.size := vz
  clear hC hm4 hbl4 ho4 ht4 hp4 hk4 u0 uz q0 q3 SRT HR3 hs4 hs4'
  go_wp2
  go_loopg [16] R.live.length (fun kx s wr => ∃ k : Nat, s = .int .i64 k ∧ k ≤ R.live.length ∧ kx = R.live.length - k ∧ Hid (∃ pv, Pz w w4 wr r w.heap.size w2.heap.size blk R.live.length c C R pv k))
  case atStart => exact ⟨0, rfl, Nat.zero_le _, rfl, ⟨_, HP.out⟩⟩
  case round =>
    obtain ⟨k, rfl, hk, rfl, HB⟩ := hrel
    clear HP v0 vz
    obtain ⟨pv, hP⟩ := HB.out
    have HP : Hid (Pz w w4 wr r w.heap.size w2.heap.size blk R.live.length c C R pv k) := hP
    have hkc := hP.cir
    have hsz := hP.siz
    obtain ⟨pa, pc, hpv⟩ : ∃ pa pc, pv = .slice pa k pc := by
      rcases hP.row.2 with ⟨h0, h1⟩ | ⟨g, cap, cur, hv, _⟩
      · exact ⟨none, 0, by rw [h0, h1]⟩
      · exact ⟨_, _, hv⟩
    subst hpv
    clear hP HB
    by_cases hlt : k < R.live.length
    · obtain ⟨b', o', e', hb', hx, hcx⟩ := HP.out.mem.one (v := Value.int .i64) (fun _ => rfl) (i := k) hlt
      simp at e'
      obtain ⟨rfl, rfl⟩ := e'
      simp only [Nat.zero_add] at hcx
      have x0 := HP.out.box
      have xz := cell_block x0
      have y1 : wr.cell? ⟨w2.heap.size, 1, none⟩ = some (.slice pa k pc) := by simp [World.cell?, hkc]
      have yz := cell_block y1
      have yf : ∀ o, wr.frozen? ⟨w2.heap.size, o, none⟩ = false := fun o => by simp [World.frozen?, hkc]
      have HE : Hid ((C.map R.idOf).take (k + 1) = (C.map R.idOf).take k ++ [R.idOf (C.getD k 0)]) := by
        show (C.map R.idOf).take (k + 1) = _
        have hkl : k < C.length := by rw [HCC.out.len]; exact hlt
        rw [List.take_succ_eq_append_getElem (by simpa using hkl)]
        simp [List.getD, hkl]
      generalize C.getD k 0 = y at hcx hx HE
      have HBD : Hid (Below w.heap.size w wr.drew) := HP.out.bel.trans (show Below w.heap.size wr wr.drew from ⟨rfl, rfl, rfl, Nat.le_refl _, fun _ _ => rfl⟩)
      have hrow := HP.out.row
      have kl : k ≤ 40 := by omega
      have hfar : some w2.heap.size ≠ (Value.slice pa k pc).ownBlock := fun e => by have := (World.ownsRow.lt hrow _ e.symm).1; omega
      go_upto_region 6 with fail
      go_region_law
        (first
          | (refine step_append_lies _ (by rfl) _ _ _ (by rfl) w4.heap.size 59 i0 _ 1 8 Tryz.underlying22 hif hz0 hz1 hz2 rfl (by omega) _ _ _ (by rfl) (by first | exact (hrow.drew).alloc _ | exact (hrow.alloc _).drew)
              ⟨wr.heap.size, 0, none⟩ 1 1 [cellP (R.idOf y)] (by rfl) (by rfl) (World.news_of_block (cs := #[.int .u64 (R.idOf y)]) (t := 59) (fr := (0, 0)) (heap_alloc_new wr.drew _)) (by simp [cellP, Value.oneCell'])
              (by omega) (by unfold maxLen; omega) (by omega) (by simp; omega) (wr.heap.size + 1) (by simp) ?_; intro gg cap w6 hown1 hgrow hat hlt3
             have hbx : w6.heap[w2.heap.size]? = some (.cells #[.slice (some ⟨blk, 0, none⟩) R.live.length c, .slice pa k pc] 50 (0, 0)) := (hgrow.block w2.heap.size (by simp; omega) (fun e => hfar e)).trans ((Below.heap_alloc wr.drew _ _ (by simpa using yz)).trans hkc)
             have hf2 : w6.frozen? ⟨w2.heap.size, 1, none⟩ = false := by simp [World.frozen?, hbx]
             have hk1 : w6.cell? ⟨w2.heap.size, 1, none⟩ = some (.slice pa k pc) := by simp [World.cell?, hbx]
             have hl2 := cell_block hk1)
          | (go_simp; go_at_call 54; refine (id_r r gp gk R y _ (H.out.1.below HBD.out)).mono ?_; rintro e w' ⟨rfl, rfl⟩))
      all_goals
        have HN : Hid (Pz w w4 (w6.setCell ⟨w2.heap.size, 1, none⟩ (.slice (some ⟨gg, 0, none⟩) (k + 1) cap)) r w.heap.size w2.heap.size blk R.live.length c C R (.slice (some ⟨gg, 0, none⟩) (k + 1) cap) (k + 1)) := by
          have hgB := (World.ownsRow.lt hown1 gg rfl).1
          have hs6 : wr.heap.size + 1 ≤ w6.heap.size := by have := hgrow.size; simpa using this
          have hblk2 := HB3.out.2.2.2.1
          have hblk3 := HB3.out.2.2.2.2.1
          have ksame : ∀ b, b < wr.heap.size → b < w4.heap.size → b ≠ w2.heap.size → (w6.setCell ⟨w2.heap.size, 1, none⟩ (.slice (some ⟨gg, 0, none⟩) (k + 1) cap)).heap[b]? = wr.heap[b]? := fun b hb hb4 hne => by
            rw [Below.heap_setCell _ _ _ _ (show b ≠ w2.heap.size from hne), hgrow.block b (by simp; omega) (fun e => by have := (World.ownsRow.lt hrow _ e.symm).1; omega)]
            exact Below.heap_alloc wr.drew _ b hb
          have hw := HP.out.bel.size
          refine ⟨⟨hgrow.os.trans HP.out.bel.os, hgrow.tape.trans HP.out.bel.tape, hgrow.output.trans HP.out.bel.output, by simp [World.setCell]; omega, fun b hb => (ksame b (by omega) (by omega) (by omega)).trans (HP.out.bel.block b hb)⟩, ?_, pair_set1 hbx _, ?_, ?_, by simp [World.setCell]; omega, (ksame _ (by omega) (by omega) (by omega)).trans HP.out.res⟩
          · rw [← HP.out.box]
            exact World.cell?_of_block (ksame w.heap.size xz (by omega) (by omega))
          · rw [HE.out, List.map_append]
            exact row_setCell hown1 (by intro e; simp [Value.ownBlock] at e; omega) _
          · exact HP.out.mem.kept (by simp [World.setCell]; omega) (fun x hx hlt => by cases hx; exact ksame blk hlt (by omega) (by omega))
        clear hown1 hgrow hat hbx hf2 hk1 hl2
        go_wp2
        go_roundg (R.live.length - (k + 1))
        case measure => omega
        case rel => exact ⟨k + 1, by go_num, by omega, rfl, ⟨_, HN.out⟩⟩
    · obtain rfl : k = R.live.length := by omega
      have hrs := HP.out.res
      have y0 : wr.cell? ⟨w2.heap.size, 0, none⟩ = some (.slice (some ⟨blk, 0, none⟩) R.live.length c) := by simp [World.cell?, hkc]
      have y1 : wr.cell? ⟨w2.heap.size, 1, none⟩ = some (.slice pa R.live.length pc) := by simp [World.cell?, hkc]
      have yz := cell_block y0
      have t0 : wr.cell? ⟨w.heap.size + 1, 0, none⟩ = some (.slice none 0 0) := by simp [World.cell?, hrs]
      have t1 : wr.cell? ⟨w.heap.size + 1, 1, none⟩ = some (.slice none 0 0) := by simp [World.cell?, hrs]
      have tz := cell_block t0
      have tf : ∀ o, wr.frozen? ⟨w.heap.size + 1, o, none⟩ = false := fun o => by simp [World.frozen?, hrs]
      have hblk2 := HB3.out.2.2.2.1
      have hne : ¬ w.heap.size + 1 = w2.heap.size := by omega
      have hne2 : ¬ w2.heap.size = w.heap.size + 1 := by omega
      clear hkc hrs
      go_wp2
      have hsml := hs2
      refine bodyPost_ret (v := .agg #[.slice (some ⟨blk, 0, none⟩) R.live.length c, .slice pa R.live.length pc]) (by simp [results, Tryz.results18, go_sem, *]) rfl ⟨C, blk, pa, c, pc, rfl, HCC.out, ?_, HC3.out.1, HC3.out.2, ?_, ?_, ?_, by omega, fun x hx => by have := own_new HP.out.row x hx; omega⟩
      · exact (HP.out.mem.setCell (fun x hx => by cases hx; show blk ≠ w.heap.size + 1; omega) _).setCell (fun x hx => by cases hx; show blk ≠ w.heap.size + 1; omega) _
      · have hr := HP.out.row
        rw [List.take_of_length_le (by rw [List.length_map, HCC.out.len]; exact Nat.le_refl _)] at hr
        have hid := own_ids hr (fun x hx => by
          obtain ⟨y, _, rfl⟩ := List.mem_map.1 hx
          exact H.out.2.u y) (by omega)
        have hf : ∀ x, pa = some x → x.block ≠ w.heap.size + 1 := fun x hx => by
          have := own_new hr x hx
          omega
        exact (hid.setCell hf _).setCell hf _
      · rcases HP.out.row.2 with ⟨_, h0⟩ | ⟨g, cap, cur, hv, _, _, hnc, hcm, _⟩
        · omega
        · simp at hv
          unfold maxLen at hcm
          omega
      · exact (HP.out.bel.setCell (by simp) _).setCell (by simp) _
theorem of_r (r gp gk : Nat) (R : Rg) (w : World) (h : RingAt w r gp gk R) (hi : Inv R) :
    Calls Tryz.prog 18 #[.pointer (some ⟨r, 0, none⟩)] w fun e w' => ∃ C g b c d, e = .returned (.agg #[.slice (some ⟨g, 0, none⟩) R.live.length c, .slice b R.live.length d]) ∧ Cir R C ∧ InIn w' (some ⟨g, 0, none⟩) R.live.length C ∧ R.live.length ≤ c ∧ c ≤ 9223372036854775807 ∧ IdIn w' b R.live.length (C.map R.idOf) ∧ (R.live.length ≤ d ∧ d ≤ 9223372036854775807) ∧ Below w.heap.size w w' :=
  (of_new r gp gk R w h hi).mono (fun e w' z => by
    obtain ⟨C, g, b, c, d, z1, z2, z3, z4, z5, z6, z7, z8, _⟩ := z
    exact ⟨C, g, b, c, d, z1, z2, z3, z4, z5, z6, z7, z8⟩)
end Go.Proofs.YtmajlldfiiokoaaGreatDoor
