/- slices.Clone at ints; Peer; Round. -/
import Derived.Test.YtkkkldglceiiiaaChStab
import Derived.Lib.SliceRun
namespace Go.Proofs.Ytkkkldglceiiiaa
open Go.ChangeShapes Go.WideShapes Go.ChangeAt Go.RowKit Go.Deep
set_option linter.unusedVariables false

set_option maxRecDepth 100000 in
set_option maxHeartbeats 1000000 in
theorem clone_i (a : Option Addr) (len cap : Nat) (l : List Int) (w : World) (hl : InIn w a len l) (hnil : a = none → len = 0) (hlen : len ≤ 1000) :
    Calls Try.prog 114 #[.slice a len cap] w fun e w' => ∃ a' c', e = .returned (.slice a' len c') ∧ InIn w' a' len l ∧ len ≤ c' ∧ c' ≤ 9223372036854775807 ∧ (a' = none → len = 0) ∧ (∀ x, a' = some x → w.heap.size ≤ x.block) ∧ Below w.heap.size w w' := by
  obtain ⟨i0, hi, hz0, hz1, hz2⟩ := info_of Try.infoInt
  have qT : ∀ (w : World) (a : Option Addr) (n c n' c' : Nat), (binOp .eql 22 (.slice a n c) (.slice none n' c')).run Try.prog w = .ok (.bool a.isNone) w := fun w a n c n' c' => Lib.run_eql_slice_nil w _ _ a n c n' c' Try.underlying22
  rcases a with _ | x
  · obtain rfl := hnil rfl
    have HL : Hid (InIn w none 0 l) := hl
    clear hl hnil
    go_enter Try.func114, Try.ntmps114
    go_wp2
    go_ret
    exact ⟨none, 0, rfl, HL.out, by omega, by omega, by simp, by simp, Below.refl _ _⟩
  · have HL : Hid (InIn w (some x) len l) := hl
    have HS : Hid (Src Try.prog 1 22 (.slice (some x) len cap) len (l.map cellI) (w.alloc (.cells #[] 3))) := src_ints (hl.below (Nat.le_refl _) (below_one _ _)) hnil
    have HO : Hid ((w.alloc (.cells #[] 3)).ownsRow w.heap.size 3 1 (.slice (some ⟨w.heap.size, 0, none⟩) 0 0) 0 []) :=
      ⟨rfl, .inr ⟨w.heap.size, 0, #[], rfl, Nat.le_refl _, heap_alloc_new w _, Nat.le_refl _, by decide, rfl, rfl⟩⟩
    clear hl hnil
    go_enter Try.func114, Try.ntmps114
    go_wp2_with (at_builtin; refine wpList_own_append _ rfl _ _ 22 22 rfl w.heap.size 3 i0 _ 8 Try.underlying22 hi hz0 hz1 hz2 rfl _ _ _ rfl HO.out _ len _ rfl HS.out ?c3 ?c4 ?c5 ?_)
    case c3 => unfold maxLen; omega
    case c4 => omega
    case c5 => simp
    intro v' w1 ha
    have HA : Hid _ := ha
    obtain ⟨a', c', hv'⟩ := ha.shape
    subst hv'
    clear ha
    go_wp2
    go_ret
    have hg := HA.out.grown
    have hr : w1.ownsRow w.heap.size 3 1 (.slice a' len c') len (l.map cellI) := by simpa using HA.out.row
    refine ⟨a', c', by simp, in_of_own hr (ints_ok HL.out) (by omega), (own_caps hr).1, (own_caps hr).2, fun e => ?_, own_new hr, (below_one _ _).trans ⟨hg.os, hg.tape, hg.output, hg.size, fun k hk => hg.block k (by simp; omega) (by simp [Value.ownBlock]; omega)⟩⟩
    subst e
    rcases hr.2 with ⟨_, e⟩ | ⟨g, cap, cur, hv, _⟩
    · exact e
    · cases hv


set_option maxRecDepth 100000 in
set_option maxHeartbeats 2000000 in
theorem peer_none (r gp gk : Nat) (R : Rg) (n : Int) (w : World) (h : RingAt w r gp gk R) (hn : R.kn n = none) :
    Calls Try.prog 109 #[.pointer (some ⟨r, 0, none⟩), .int .i64 n] w fun e w' => e = .returned (.tuple #[.agg #[.int .u64 0, .int .i64 0, .slice none 0 0], .iface 40 (.int .i64 6)]) ∧ Below w.heap.size w w' := by
  have h1 := h.below (below_one w (.cells #[.int .u64 0, .int .i64 0, .slice none 0 0] 64))
  have c1 := h1.c1
  have z := h1.lt.1
  have q := (h1.missed hn).1
  clear h h1 hn
  go_enter Try.func109, Try.ntmps109
  go_wp2
  refine bodyPost_ret (v := .tuple #[.agg #[.int .u64 0, .int .i64 0, .slice none 0 0], .iface 40 (.int .i64 6)]) (by simp [results, Try.results109, go_sem]) rfl ⟨rfl, ?_⟩
  exact (below_one _ _).trans ((below_one _ _).mono (by simp))

set_option maxRecDepth 100000 in
set_option maxHeartbeats 2000000 in
theorem peer_some (r gp gk : Nat) (R : Rg) (n : Int) (p : Pe) (w : World) (h : RingAt w r gp gk R) (hn : R.kn n = some p) (hs : p.succ.length ≤ 1000) :
    Calls Try.prog 109 #[.pointer (some ⟨r, 0, none⟩), .int .i64 n] w fun e w' => ∃ a len c, e = .returned (.tuple #[.agg #[.int .u64 p.id, .int .i64 p.pred, .slice a len c], .nilIface]) ∧ PeIn w' p.id p.pred a len c p.succ ∧ Below w.heap.size w w' := by
  have h1 := h.below (below_one w (.cells #[.int .u64 0, .int .i64 0, .slice none 0 0] 64))
  have c1 := h1.c1
  have z := h1.lt.1
  obtain ⟨a, len, cap, hp, q, _⟩ := h1.found hn
  obtain ⟨W1, hW1⟩ : ∃ W1, W1 = (w.alloc (.cells #[.int .u64 0, .int .i64 0, .slice none 0 0] 64)).alloc (.cells #[.int .u64 p.id, .int .i64 p.pred, .slice a len cap] 64) := ⟨_, rfl⟩
  have b1 : Hid (Below w.heap.size w W1 ∧ W1.heap.size = w.heap.size + 2) := ⟨by rw [hW1]; exact (below_one _ _).trans ((below_one _ _).mono (by simp)), by rw [hW1]; simp⟩
  have k0 : Hid (W1.heap[w.heap.size]? = some (.cells #[.int .u64 0, .int .i64 0, .slice none 0 0] 64 (0, 0)) ∧ W1.heap[w.heap.size + 1]? = some (.cells #[.int .u64 p.id, .int .i64 p.pred, .slice a len cap] 64 (0, 0))) := by
    rw [hW1]
    refine ⟨?_, ?_⟩
    · rw [Below.heap_alloc _ _ _ (by simp)]; exact heap_alloc_new w _
    · simpa using heap_alloc_new (w.alloc (.cells #[.int .u64 0, .int .i64 0, .slice none 0 0] 64)) (.cells #[.int .u64 p.id, .int .i64 p.pred, .slice a len cap] 64)
  have HP : Hid (PeIn W1 p.id p.pred a len cap p.succ) := hp.below (Nat.le_refl _) (by rw [hW1]; exact below_one _ _)
  have hls : len ≤ 1000 := by have := hp.row.1; omega
  clear h h1 hn hp hs
  go_enter Try.func109, Try.ntmps109
  go_wp2_with fail
  rw [← hW1]
  clear hW1 c1 z q
  refine (clone_i a len cap p.succ _ HP.out.row HP.out.hnil hls).mono ?_
  rintro e w2 ⟨a2, c2, rfl, hr, hc, hm, hni, hfr, hb⟩
  have HP2 : Hid (PeIn w2 p.id p.pred a2 len c2 p.succ) := ⟨HP.out.hid, HP.out.hpred, hr, hc, hm, hni⟩
  have HF : Hid (∀ x, a2 = some x → w.heap.size + 2 ≤ x.block) := fun x hx => by have := hfr x hx; have := b1.out.2; omega
  have e0 : w2.heap[w.heap.size]? = some (.cells #[.int .u64 0, .int .i64 0, .slice none 0 0] 64 (0, 0)) := (hb.block _ (by have := b1.out.2; omega)).trans k0.out.1
  have e1 : w2.heap[w.heap.size + 1]? = some (.cells #[.int .u64 p.id, .int .i64 p.pred, .slice a len cap] 64 (0, 0)) := (hb.block _ (by have := b1.out.2; omega)).trans k0.out.2
  have B2 : Hid (Below w.heap.size w w2) := b1.out.1.trans (hb.mono b1.out.1.size)
  have z2 : w.heap.size < w2.heap.size := by have := hb.size; have := b1.out.2; omega
  have z3 : w.heap.size + 1 < w2.heap.size := by have := hb.size; have := b1.out.2; omega
  have x0 : w2.cell? ⟨w.heap.size, 0, none⟩ = some (.int .u64 0) := by simp [World.cell?, e0]
  have x1 : w2.cell? ⟨w.heap.size, 1, none⟩ = some (.int .i64 0) := by simp [World.cell?, e0]
  have x2 : w2.cell? ⟨w.heap.size, 2, none⟩ = some (.slice none 0 0) := by simp [World.cell?, e0]
  have y0 : w2.cell? ⟨w.heap.size + 1, 0, none⟩ = some (.int .u64 p.id) := by simp [World.cell?, e1]
  have y1 : w2.cell? ⟨w.heap.size + 1, 1, none⟩ = some (.int .i64 p.pred) := by simp [World.cell?, e1]
  have y2 : w2.cell? ⟨w.heap.size + 1, 2, none⟩ = some (.slice a len cap) := by simp [World.cell?, e1]
  have f0 : ∀ o, w2.frozen? ⟨w.heap.size, o, none⟩ = false := fun o => by simp [World.frozen?, e0]
  have f1 : ∀ o, w2.frozen? ⟨w.heap.size + 1, o, none⟩ = false := fun o => by simp [World.frozen?, e1]
  clear hr hc hm hni hfr hb e0 e1
  go_wp2
  refine bodyPost_ret (v := .tuple #[.agg #[.int .u64 p.id, .int .i64 p.pred, .slice a2 len c2], .nilIface]) (by simp [results, Try.results109, go_sem, *]) rfl ⟨a2, len, c2, rfl, ?_, ?_⟩
  · refine ⟨HP2.out.hid, HP2.out.hpred, ?_, HP2.out.hcap, HP2.out.hmost, HP2.out.hnil⟩
    have h := HP2.out.row
    refine ⟨h.1, h.2.1, ?_⟩
    rcases h.2.2 with h0 | ⟨b, o, ha, hlt, hc⟩
    · exact .inl h0
    · have hb := HF.out _ ha
      simp at hb
      refine .inr ⟨b, o, ha, by simpa [World.setCell] using hlt, fun i hi => ⟨(hc i hi).1, fun j hj => ?_⟩⟩
      rw [← (hc i hi).2 j hj]
      refine World.cell?_of_block ?_
      rw [Below.heap_setCell _ _ _ _ (by show b ≠ w.heap.size; omega), Below.heap_setCell _ _ _ _ (by show b ≠ w.heap.size; omega), Below.heap_setCell _ _ _ _ (by show b ≠ w.heap.size; omega), Below.heap_setCell _ _ _ _ (by show b ≠ w.heap.size + 1; omega)]
  · exact (((B2.out.setCell (by simp) _).setCell (by simp) _).setCell (by simp) _).setCell (by simp) _

def Rg.round (R : Rg) : Rg := R.live.foldl (fun R n => R.stab n) R

end Go.Proofs.Ytkkkldglceiiiaa
