/- What bag.Bag does: Send, Len; where a bag lies. -/
import Derived.Test.YtgbdnclolgdojaaDoorRows
import Derived.Test.YtgbdnclolgdojaaDoorCodeW
import Derived.Test.YtgbdnclolgdojaaDoorBagMath
import Derived.Test.YtgbdnclolgdojaaDoorRowOps
import Derived.WalkKit
import Derived.ProofKit
import Derived.OpenShut
import Derived.WalkLawsBesides
import Derived.OneCell
import Derived.Deep.AppendSrc
import Derived.Deep.RegionHeld3
import Derived.Deep.RegionLaw
import Derived.Deep.AppendLies
import Derived.Outline
namespace Go.Proofs.YtgbdnclolgdojaaDoor
open Go.ChangeShapes Go.WideShapes Go.ChangeAt Go.RowKit
set_option linter.unusedVariables false

/-- A bag at block p whose slice is v; its memory lies from block B on. -/
structure BagAt (B : Nat) (w : World) (p : Nat) (v : Value) (g : Bg) : Prop where
  lo : B ≤ p
  box : w.heap[p]? = some (.cells #[v, .int .i64 g.last] 25 (0, 0))
  row : w.ownsRow B 41 4 v g.ps.length (g.ps.flatMap Pk.cells)
  apart : v.ownBlock ≠ some p

section
variable {w : World} {p : Nat} {a b : Value} {t : TypeId} (h : w.heap[p]? = some (.cells #[a, b] t (0, 0)))
include h
theorem two_c0 : w.cell? ⟨p, 0, none⟩ = some a := by simp [World.cell?, h]
theorem two_c1 : w.cell? ⟨p, 1, none⟩ = some b := by simp [World.cell?, h]
theorem two_free (o : Nat) : w.frozen? ⟨p, o, none⟩ = false := by simp [World.frozen?, h]
theorem two_set0 (u : Value) : (w.setCell ⟨p, 0, none⟩ u).heap[p]? = some (.cells #[u, b] t (0, 0)) := by
  have hlt := lt_of_block h
  have h' : w.heap[p] = .cells #[a, b] t (0, 0) := by simpa [Array.getElem?_eq_getElem hlt] using h
  show (w.heap.modify p _)[p]? = _
  rw [Array.getElem?_eq_getElem (by simpa using hlt), Array.getElem_modify_self, h']
  rfl
theorem two_set1 (u : Value) : (w.setCell ⟨p, 1, none⟩ u).heap[p]? = some (.cells #[a, u] t (0, 0)) := by
  have hlt := lt_of_block h
  have h' : w.heap[p] = .cells #[a, b] t (0, 0) := by simpa [Array.getElem?_eq_getElem hlt] using h
  show (w.heap.modify p _)[p]? = _
  rw [Array.getElem?_eq_getElem (by simpa using hlt), Array.getElem_modify_self, h']
  rfl
end

theorem BagAt.lt {B : Nat} {w : World} {p : Nat} {v : Value} {g : Bg} (h : BagAt B w p v g) : p < w.heap.size := lt_of_block h.box
theorem BagAt.shape {B : Nat} {w : World} {p : Nat} {v : Value} {g : Bg} (h : BagAt B w p v g) : ∃ a c, v = .slice a g.ps.length c := by
  rcases h.row.2 with ⟨rfl, hn⟩ | ⟨g, cap, cur, rfl, _⟩
  · exact ⟨none, 0, by rw [hn]⟩
  · exact ⟨_, _, rfl⟩
theorem BagAt.new (w : World) (B : Nat) (hB : B ≤ w.heap.size) : BagAt B (w.alloc (.cells #[.slice none 0 0, .int .i64 0] 25)) w.heap.size (.slice none 0 0) bg0 :=
  ⟨hB, heap_alloc_new w _, World.ownsRow_nil _ _ _ _, by simp [Value.ownBlock]⟩
/-- The bag lies as it lay where its two blocks do. -/
theorem BagAt.carry {B : Nat} {w w' : World} {p : Nat} {v : Value} {g : Bg} (h : BagAt B w p v g) (hb : ∀ k, k < w.heap.size → w'.heap[k]? = w.heap[k]?) : BagAt B w' p v g := by
  refine ⟨h.lo, (hb p h.lt).trans h.box, ⟨h.row.1, ?_⟩, h.apart⟩
  rcases h.row.2 with h1 | ⟨g', cap, cur, hv, hbg, hg, hr⟩
  · exact .inl h1
  · exact .inr ⟨g', cap, cur, hv, hbg, (hb g' (lt_of_block hg)).trans hg, hr⟩
theorem BagAt.below {B : Nat} {w w' : World} {p : Nat} {v : Value} {g : Bg} (h : BagAt B w p v g) (hb : Below w.heap.size w w') : BagAt B w' p v g := h.carry fun k hk => hb.block k hk
theorem BagAt.alloc {B : Nat} {w : World} {p : Nat} {v : Value} {g : Bg} (h : BagAt B w p v g) (o : Obj) : BagAt B (w.alloc o) p v g := h.carry fun k hk => Below.heap_alloc w o k hk
theorem Kept.ofBelow {w w' : World} {p : Nat} {v : Value} (h : Below w.heap.size w w') : Kept w w' p v v := ⟨h.os, h.tape, h.output, h.size, fun k hk _ _ => h.block k hk, fun k hk => .inl hk⟩
theorem Kept.belowB {B : Nat} {a w w' : World} {p : Nat} {v v' : Value} {g : Bg} (h : Kept w w' p v v') (hW : BagAt B w p v g) (hb : Below B a w) (hB : B ≤ w.heap.size) : Below B a w' :=
  hb.trans ⟨h.os, h.tape, h.output, h.size, fun k hk => h.block k (by omega) (by have := hW.lo; omega) (fun e => by have := (hW.row.lt k e.symm).1; omega)⟩

theorem Tryd.infoPk : (Tryd.prog.info? 41).map (fun i => (i.zero, i.size, i.bytes)) = some (some (.agg #[.int .i64 0, .int .i64 0, .int .i64 0, .string ByteArray.empty]), 4, 40) := by kernel_rfl

theorem len_any (B p : Nat) (v : Value) (g : Bg) (w : World) (h : BagAt B w p v g) :
    Calls Tryd.prog 19 #[.pointer (some ⟨p, 0, none⟩)] w fun e w' => e = .returned (.int .i64 g.ps.length) ∧ w' = w := by
  obtain ⟨a, c, rfl⟩ := h.shape
  have h0 := two_c0 h.box
  clear h
  go_enter Tryd.func19, Tryd.ntmps19
  go_wp2
  go_ret
  exact ⟨rfl, rfl⟩

theorem send_long (p : Nat) (x y : Int) (s : ByteArray) (w : World) (hs : 2000 < s.size) (hm : s.size ≤ maxLen) :
    Calls Tryd.prog 7 #[.pointer (some ⟨p, 0, none⟩), .int .i64 x, .int .i64 y, .string s] w fun e w' => e = .returned (.tuple #[.int .i64 0, .iface 38 (.int .i64 1)]) ∧ w' = w := by
  unfold maxLen at hm
  go_enter Tryd.func7, Tryd.ntmps7
  go_wp2
  go_ret2
  exact ⟨rfl, rfl⟩

set_option maxRecDepth 100000 in
theorem send_full (B p : Nat) (v : Value) (g : Bg) (x y : Int) (s : ByteArray) (w : World) (h : BagAt B w p v g) (hs : s.size ≤ 2000) (hg : 4000 ≤ g.ps.length) :
    Calls Tryd.prog 7 #[.pointer (some ⟨p, 0, none⟩), .int .i64 x, .int .i64 y, .string s] w fun e w' => e = .returned (.tuple #[.int .i64 0, .iface 38 (.int .i64 4)]) ∧ w' = w := by
  obtain ⟨a, c, rfl⟩ := h.shape
  have h0 := two_c0 h.box
  clear h
  go_enter Tryd.func7, Tryd.ntmps7
  go_wp2
  go_ret2
  exact ⟨rfl, rfl⟩

set_option maxRecDepth 100000 in
set_option maxHeartbeats 2000000 in
theorem send_ok (B p : Nat) (v : Value) (g : Bg) (x y : Int) (s : ByteArray) (w : World) (h : BagAt B w p v g) (hB : B ≤ w.heap.size) (hs : s.size ≤ 2000) (hg : g.ps.length < 4000) (h0 : 0 ≤ g.last) (hl : g.last < 1000000000000) :
    Calls Tryd.prog 7 #[.pointer (some ⟨p, 0, none⟩), .int .i64 x, .int .i64 y, .string s] w
      fun e w' => e = .returned (.tuple #[.int .i64 (g.last + 1), .nilIface]) ∧ ∃ v', BagAt B w' p v' (g.add x y s) ∧ Kept w w' p v v' := by
  obtain ⟨i0, hi, hz0, hz1, hz2⟩ := info_parts Tryd.infoPk
  obtain ⟨a, c, rfl⟩ := h.shape
  have hc0 := two_c0 h.box
  have hc1 := two_c1 h.box
  have hfr := two_free h.box
  have hplt := h.lt
  obtain ⟨L, hL⟩ : ∃ L, L = g.last := ⟨_, rfl⟩
  have HL : Hid (L = g.last) := hL
  rw [← hL] at hc1 h0 hl
  clear hL
  obtain ⟨w1, hw1⟩ : ∃ w1, w1 = w.setCell ⟨p, 1, none⟩ (.int .i64 (L + 1)) := ⟨_, rfl⟩
  have hb1 : w1.heap[p]? = some (.cells #[.slice a g.ps.length c, .int .i64 (L + 1)] 25 (0, 0)) := by rw [hw1]; exact two_set1 h.box _
  have hown : w1.ownsRow B 41 4 (.slice a g.ps.length c) g.ps.length (g.ps.flatMap Pk.cells) := by rw [hw1]; exact ownsRow_setCell_other h.row h.apart _
  have hs1 : w1.heap.size = w.heap.size := by rw [hw1]; simp [World.setCell]
  have e0 := two_c0 hb1
  have e1 := two_c1 hb1
  have ef := two_free hb1
  have hap := h.apart
  go_enter Tryd.func7, Tryd.ntmps7
  go_wp2_with fail
  rw [← hw1]
  have HW : Hid (w1 = w.setCell ⟨p, 1, none⟩ (.int .i64 (L + 1)) ∧ w1.heap.size = w.heap.size ∧ BagAt B w p (.slice a g.ps.length c) g) := ⟨hw1, hs1, h⟩
  have hp1 : p < w1.heap.size := by omega
  have hB1 : B ≤ w1.heap.size := by omega
  clear hw1 hs1 hc0 hc1 hfr h
  go_region_law
    ((refine step_append_lies _ (by rfl) _ _ _ (by rfl) B 41 i0 _ 4 40 Tryd.underlying23 hi hz0 hz1 hz2 rfl (by omega) _ _ _ (by rfl) ((hown.alloc _).drew)
        ⟨w1.heap.size, 0, none⟩ 1 1 [.int .i64 (L + 1), .int .i64 x, .int .i64 y, .string s] (by rfl) (by rfl) (World.news_of_block (cs := #[.int .i64 (L + 1), .int .i64 x, .int .i64 y, .string s]) (t := 41) (fr := (0, 0)) (heap_alloc_new w1 _)) (by simp [Value.oneCell'])
        (by omega) (by unfold maxLen; omega) (by omega) (by simp; omega) (w1.heap.size + 1) (by simp) ?_; intro gg cap w2 hown1 hgrow hat hlt
      have hbx : w2.heap[p]? = some (.cells #[.slice a g.ps.length c, .int .i64 (L + 1)] 25 (0, 0)) := (hgrow.block p (by simp; omega) (Ne.symm hap)).trans ((Below.heap_alloc w1 _ p hp1).trans hb1)
      have hf2 := two_free hbx 0
      have hl2 := lt_of_block hbx
      have hk0 := two_c0 hbx
      have hk1 := two_c1 hbx))
  go_wp2
  all_goals
    go_ret2
    obtain ⟨hw1, hs1, h⟩ := HW.out
    have hne : gg ≠ p := fun e => by
      rcases hat with h1 | h1
      · exact hap (by rw [h1, e])
      · omega
    have hap' : (Value.slice (some ⟨gg, 0, none⟩) (g.ps.length + 1) cap).ownBlock ≠ some p := by simpa [Value.ownBlock] using hne
    refine ⟨by rw [HL.out]; rfl, .slice (some ⟨gg, 0, none⟩) (g.ps.length + 1) cap, ⟨h.lo, ?_, ?_, hap'⟩, ?_⟩
    · have := two_set0 hbx (.slice (some ⟨gg, 0, none⟩) (g.ps.length + 1) cap)
      rw [HL.out] at this
      exact this
    · have := ownsRow_setCell_other hown1 (a := ⟨p, 0, none⟩) hap' (.slice (some ⟨gg, 0, none⟩) (g.ps.length + 1) cap)
      rw [HL.out] at this
      simpa [Bg.add, Pk.cells] using this
    · have hsz : w.heap.size + 1 ≤ w2.heap.size := by have := hgrow.size; simp at this; omega
      refine ⟨hgrow.os.trans (by rw [hw1]; rfl), hgrow.tape.trans (by rw [hw1]; rfl), hgrow.output.trans (by rw [hw1]; rfl), by simp [World.setCell]; omega, fun k hk hkp hkv => ?_, fun k hk => ?_⟩
      · rw [Below.heap_setCell _ _ _ _ (by simpa using hkp), hgrow.block k (by simp; omega) hkv]
        show (w1.alloc _).heap[k]? = _
        rw [Below.heap_alloc w1 _ k (by omega), hw1]
        exact Below.heap_setCell _ _ _ _ (by simpa using hkp)
      · have hk' : gg = k := by simpa [Value.ownBlock] using hk
        subst hk'
        rcases hat with h1 | h1
        · exact .inl h1
        · exact .inr (by omega)
end Go.Proofs.YtgbdnclolgdojaaDoor
