/- bag.find: a packet's number is found, or isn't there. -/
import Derived.Test.YtgbdnclolgdojaaDoorBagFind
namespace Go.Proofs.YtgbdnclolgdojaaDoor
open Go.ChangeShapes Go.WideShapes Go.ChangeAt Go.RowKit
set_option linter.unusedVariables false

theorem enter_find1 : ∀ args w, (callFunc 54 args).run Tryd.prog w = .ok (.enter 54 args) w := fun args w => by
  kernel_rfl

/-- Cells below that Below keeps. -/
theorem bcell {W w1 : World} (hb : Below W.heap.size W w1) (b o : Nat) (h : b < W.heap.size) : w1.cell? ⟨b, o, none⟩ = W.cell? ⟨b, o, none⟩ := hb.cell (p := ⟨b, o, none⟩) h

set_option maxRecDepth 100000 in
set_option maxHeartbeats 1000000 in
theorem find_hit (B p : Nat) (v : Value) (g : Bg) (id : Int) (k : Nat) (w : World) (h : BagAt B w p v g) (hok : g.ok) (hk : k < g.ps.length) (hid : (g.ps.getD k pk0).id = id) :
    Calls Tryd.prog 33 #[.pointer (some ⟨p, 0, none⟩), .int .i64 id] w fun e w' => e = .returned (.tuple #[.int .i64 k, .nilIface]) ∧ Below w.heap.size w w' := by
  have hplt := h.lt
  have hlen := hok.len
  rcases pkrow_of h.row with ⟨a, c, rfl, hn⟩ | ⟨gg, c, rfl, hBg, hpos, R, hob⟩
  · rw [hn] at hk; simp at hk
  have hglt := R.lt
  have hc0 := two_c0 h.box
  obtain ⟨w2, hw2⟩ : ∃ w2, w2 = (w.alloc (.cells #[.pointer (some ⟨p, 0, none⟩)] 81)).alloc (.cells #[.int .i64 id] 3) := ⟨_, rfl⟩
  have hsz : w2.heap.size = w.heap.size + 2 := by rw [hw2]; simp
  have b2 : Below w.heap.size w w2 := by rw [hw2]; exact ((Below.refl _ _).alloc (Nat.le_refl _) _).alloc (by simp) _
  have d0 : w2.cell? ⟨w.heap.size, 0, none⟩ = some (.pointer (some ⟨p, 0, none⟩)) := by
    rw [hw2]; simp
  have d1 : w2.cell? ⟨w.heap.size + 1, 0, none⟩ = some (.int .i64 id) := by
    rw [hw2]; simp
  have hs := search_any 54 #[.pointer (some ⟨w.heap.size, 0, none⟩), .pointer (some ⟨w.heap.size + 1, 0, none⟩)] g.ps.length (fun i => decide (id ≤ (g.ps.getD i pk0).id)) w2 enter_find1 hlen
    (fun W i hi hW => by
      have e0 := (bcell hW w.heap.size 0 (by omega)).trans d0
      have e1 := (bcell hW (w.heap.size + 1) 0 (by omega)).trans d1
      have e2 := ((bcell hW p 0 (by omega)).trans (bcell b2 p 0 hplt)).trans hc0
      have e3 := ((bcell hW gg (i * 4) (by omega)).trans (bcell b2 gg (i * 4) hglt)).trans (R.c0 i hi)
      refine (find1_any i _ _ p gg _ c _ id W e0 e1 e2 e3 hi).mono ?_
      rintro e w' ⟨rfl, hb⟩
      exact ⟨rfl, hW.trans (hb.mono hW.size)⟩)
    (fun a b hab hb ha => by
      have := rising_le hok.rise hab hb
      simp only [decide_eq_true_eq] at ha ⊢
      omega)
  have HH : Hid (BagAt B w p (.slice (some ⟨gg, 0, none⟩) g.ps.length c) g ∧ g.ok ∧ PkRow w gg g.ps ∧ (g.ps.getD k pk0).id = id ∧ w2.heap.size = w.heap.size + 2) := ⟨h, hok, R, hid, hsz⟩
  have hmf : ∀ (fn : Fn) (first cap : Array Value) (w : World), (Instr.makeFunc fn first cap).run Tryd.prog w = .ok (.func fn first cap) w := fun _ _ _ _ => rfl
  have hc2 := (bcell b2 p 0 hplt).trans hc0
  have HB2 : Hid (Below w.heap.size w w2) := b2
  clear h hok R hid hsz b2
  go_enter Tryd.func33, Tryd.ntmps33
  go_wp2_with fail
  rw [← hw2]
  refine hs.mono ?_
  rintro e w3 ⟨⟨r, hr, rfl, hr1, hr2⟩, hb3⟩
  obtain ⟨h, hok, R, hid, hsz⟩ := HH.out
  have hrk : r = k := by
    rcases Nat.lt_trichotomy r k with h1 | h1 | h1
    · have e1 := hr2 r (Nat.le_refl _) (by omega)
      have e2 := rising_lt hok.rise h1 hk
      simp only [decide_eq_true_eq] at e1
      omega
    · exact h1
    · have e1 := hr1 k h1
      simp only [decide_eq_false_iff_not] at e1
      omega
  subst hrk
  have e0 := (bcell hb3 w.heap.size 0 (by omega)).trans d0
  have e1 := (bcell hb3 (w.heap.size + 1) 0 (by omega)).trans d1
  have e2 := (bcell hb3 p 0 (by omega)).trans hc2
  have e3 := ((bcell hb3 gg (r * 4) (by omega)).trans (bcell HB2.out gg (r * 4) hglt)).trans (R.c0 r hk)
  rw [hid] at e3
  clear h hok R hid hsz hr1 hr2 hs
  have hkn : (r : Int) < (g.ps.length : Int) := by omega
  have hk0 : (0 : Int) ≤ (r : Int) := by omega
  have hnn : ¬ ((r : Int) = (g.ps.length : Int)) := by omega
  go_wp2_with fail
  go_quiet (fail)
  go_wp2
  go_ret2
  exact ⟨rfl, (HB2.out.trans (hb3.mono (by have := HB2.out.size; omega))).trans ⟨rfl, rfl, rfl, Nat.le_refl _, fun _ _ => rfl⟩⟩

set_option maxRecDepth 100000 in
set_option maxHeartbeats 1000000 in
theorem find_miss (B p : Nat) (v : Value) (g : Bg) (id : Int) (w : World) (h : BagAt B w p v g) (hok : g.ok) (hno : ∀ q ∈ g.ps, q.id ≠ id) :
    Calls Tryd.prog 33 #[.pointer (some ⟨p, 0, none⟩), .int .i64 id] w fun e w' => e = .returned (.tuple #[.int .i64 0, .iface 38 (.int .i64 9)]) ∧ Below w.heap.size w w' := by
  have hplt := h.lt
  have hlen := hok.len
  have hrow := pkrow_of h.row
  obtain ⟨a, c, rfl⟩ := h.shape
  have hc0 := two_c0 h.box
  obtain ⟨w2, hw2⟩ : ∃ w2, w2 = (w.alloc (.cells #[.pointer (some ⟨p, 0, none⟩)] 81)).alloc (.cells #[.int .i64 id] 3) := ⟨_, rfl⟩
  have hsz : w2.heap.size = w.heap.size + 2 := by rw [hw2]; simp
  have b2 : Below w.heap.size w w2 := by rw [hw2]; exact ((Below.refl _ _).alloc (Nat.le_refl _) _).alloc (by simp) _
  have d0 : w2.cell? ⟨w.heap.size, 0, none⟩ = some (.pointer (some ⟨p, 0, none⟩)) := by
    rw [hw2]; simp
  have d1 : w2.cell? ⟨w.heap.size + 1, 0, none⟩ = some (.int .i64 id) := by
    rw [hw2]; simp
  have hs := search_any 54 #[.pointer (some ⟨w.heap.size, 0, none⟩), .pointer (some ⟨w.heap.size + 1, 0, none⟩)] g.ps.length (fun i => decide (id ≤ (g.ps.getD i pk0).id)) w2 enter_find1 hlen
    (fun W i hi hW => by
      rcases hrow with ⟨_, _, _, hn⟩ | ⟨gg, c', hv, hBg, hpos, R, hob⟩
      · rw [hn] at hi; simp at hi
      have hglt := R.lt
      have e0 := (bcell hW w.heap.size 0 (by omega)).trans d0
      have e1 := (bcell hW (w.heap.size + 1) 0 (by omega)).trans d1
      have e2 := ((bcell hW p 0 (by omega)).trans (bcell b2 p 0 hplt)).trans hc0
      have e3 := ((bcell hW gg (i * 4) (by omega)).trans (bcell b2 gg (i * 4) hglt)).trans (R.c0 i hi)
      rw [hv] at e2
      refine (find1_any i _ _ p gg _ c' _ id W e0 e1 e2 e3 hi).mono ?_
      rintro e w' ⟨rfl, hb⟩
      exact ⟨rfl, hW.trans (hb.mono hW.size)⟩)
    (fun a b hab hb ha => by
      have := rising_le hok.rise hab hb
      simp only [decide_eq_true_eq] at ha ⊢
      omega)
  have HH : Hid (BagAt B w p (.slice a g.ps.length c) g ∧ g.ok ∧ ((∃ a' c', Value.slice a g.ps.length c = .slice a' 0 c' ∧ g.ps = []) ∨ ∃ g' c', Value.slice a g.ps.length c = .slice (some ⟨g', 0, none⟩) g.ps.length c' ∧ B ≤ g' ∧ 0 < g.ps.length ∧ PkRow w g' g.ps ∧ (Value.slice a g.ps.length c).ownBlock = some g') ∧ (∀ q ∈ g.ps, q.id ≠ id) ∧ w2.heap.size = w.heap.size + 2) := ⟨h, hok, hrow, hno, hsz⟩
  have hmf : ∀ (fn : Fn) (first cap : Array Value) (w : World), (Instr.makeFunc fn first cap).run Tryd.prog w = .ok (.func fn first cap) w := fun _ _ _ _ => rfl
  have hc2 := (bcell b2 p 0 hplt).trans hc0
  have HB2 : Hid (Below w.heap.size w w2) := b2
  clear h hok hrow hno hsz b2
  go_enter Tryd.func33, Tryd.ntmps33
  go_wp2_with fail
  rw [← hw2]
  refine hs.mono ?_
  rintro e w3 ⟨⟨r, hr, rfl, hr1, hr2⟩, hb3⟩
  obtain ⟨h, hok, hrow, hno, hsz⟩ := HH.out
  have e0 := (bcell hb3 w.heap.size 0 (by omega)).trans d0
  have e1 := (bcell hb3 (w.heap.size + 1) 0 (by omega)).trans d1
  have e2 := (bcell hb3 p 0 (by omega)).trans hc2
  by_cases hrn : r = g.ps.length
  · subst hrn
    clear h hok hrow hno hsz hr1 hr2 hs
    go_wp2_with fail
    go_quiet (fail)
    go_wp2
    go_ret2
    exact ⟨rfl, (HB2.out.trans (hb3.mono (by have := HB2.out.size; omega))).trans ⟨rfl, rfl, rfl, Nat.le_refl _, fun _ _ => rfl⟩⟩
  · rcases hrow with ⟨_, _, _, hn⟩ | ⟨gg, c', hv, hBg, hpos, R, hob⟩
    · exact absurd (show r = g.ps.length by rw [hn] at hr ⊢; simp at hr ⊢; omega) hrn
    have hglt := R.lt
    have hk : r < g.ps.length := by omega
    have e3 := ((bcell hb3 gg (r * 4) (by omega)).trans (bcell HB2.out gg (r * 4) hglt)).trans (R.c0 r hk)
    have hx := hno _ (getD_mem g.ps r hk)
    obtain ⟨x, hxd⟩ : ∃ x, x = (g.ps.getD r pk0).id := ⟨_, rfl⟩
    rw [← hxd] at e3 hx
    have ha : a = some ⟨gg, 0, none⟩ := by simp at hv; exact hv.1
    subst ha
    clear h hok hsz hr1 hr2 hs hxd hno R hv
    have hkn : (r : Int) < (g.ps.length : Int) := by omega
    have hk0 : (0 : Int) ≤ (r : Int) := by omega
    have hnn : ¬ ((r : Int) = (g.ps.length : Int)) := by omega
    go_wp2_with fail
    go_quiet (fail)
    go_wp2
    all_goals first
      | (exfalso; omega)
      | (exfalso; simp_all; done)
      | (go_ret2
         exact ⟨rfl, (HB2.out.trans (hb3.mono (by have := HB2.out.size; omega))).trans ⟨rfl, rfl, rfl, Nat.le_refl _, fun _ _ => rfl⟩⟩)
end Go.Proofs.YtgbdnclolgdojaaDoor
