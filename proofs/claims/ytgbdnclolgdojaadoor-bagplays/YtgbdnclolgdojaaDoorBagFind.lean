/- bag.find: the closure, sort.Search, where the packet of a number lies. -/
import Derived.Test.YtgbdnclolgdojaaDoorBag
import Derived.Deep.LoopGhost
import Derived.Deep.QuietTactic
import Derived.BigQuiet
import Derived.RegionTactic
namespace Go.Proofs.YtgbdnclolgdojaaDoor
open Go.ChangeShapes Go.WideShapes Go.ChangeAt Go.RowKit
set_option linter.unusedVariables false

/-- The packets ps lie in block g, from its beginning on. -/
structure PkRow (w : World) (g : Nat) (ps : List Pk) : Prop where
  lt : g < w.heap.size
  c0 : ∀ j, j < ps.length → w.cell? ⟨g, j * 4, none⟩ = some (.int .i64 (ps.getD j pk0).id)
  c1 : ∀ j, j < ps.length → w.cell? ⟨g, j * 4 + 1, none⟩ = some (.int .i64 (ps.getD j pk0).src)
  c2 : ∀ j, j < ps.length → w.cell? ⟨g, j * 4 + 2, none⟩ = some (.int .i64 (ps.getD j pk0).dst)
  c3 : ∀ j, j < ps.length → w.cell? ⟨g, j * 4 + 3, none⟩ = some (.string (ps.getD j pk0).s)
theorem PkRow.carry {w w' : World} {g : Nat} {us : List Pk} (h : PkRow w g us) (hs : w.heap.size ≤ w'.heap.size) (hb : w'.heap[g]? = w.heap[g]?) : PkRow w' g us :=
  ⟨Nat.lt_of_lt_of_le h.lt hs, fun j hj => (World.cell?_of_block (a := ⟨g, j * 4, none⟩) hb).trans (h.c0 j hj), fun j hj => (World.cell?_of_block (a := ⟨g, j * 4 + 1, none⟩) hb).trans (h.c1 j hj),
   fun j hj => (World.cell?_of_block (a := ⟨g, j * 4 + 2, none⟩) hb).trans (h.c2 j hj), fun j hj => (World.cell?_of_block (a := ⟨g, j * 4 + 3, none⟩) hb).trans (h.c3 j hj)⟩
theorem PkRow.below {w w' : World} {g : Nat} {us : List Pk} (h : PkRow w g us) (hb : Below w.heap.size w w') : PkRow w' g us := h.carry hb.size (hb.block g h.lt)
theorem PkRow.alloc {w : World} {g : Nat} {us : List Pk} (h : PkRow w g us) (o : Obj) : PkRow (w.alloc o) g us := h.carry (by simp) (Below.heap_alloc w o g h.lt)

/-- A row of packets of the call's own: nothing, or a block. -/
theorem pkrow_of {w : World} {B : Nat} {v : Value} {us : List Pk} (h : w.ownsRow B 41 4 v us.length (us.flatMap Pk.cells)) :
    (∃ a c, v = .slice a 0 c ∧ us = []) ∨ ∃ g c, v = .slice (some ⟨g, 0, none⟩) us.length c ∧ B ≤ g ∧ 0 < us.length ∧ PkRow w g us ∧ v.ownBlock = some g := by
  by_cases h0 : us.length = 0
  · have hu : us = [] := List.eq_nil_of_length_eq_zero h0
    subst hu
    rcases h.2 with ⟨rfl, _⟩ | ⟨g, cap, cur, rfl, _⟩
    · exact .inl ⟨none, 0, rfl, rfl⟩
    · exact .inl ⟨_, cap, rfl, rfl⟩
  · rcases h.2 with ⟨_, h1⟩ | ⟨g, cap, cur, hv, hb, hg, _⟩
    · omega
    · have hc : ∀ i, i < us.length → ∀ j, j < 4 → w.cell? ⟨g, i * 4 + j, none⟩ = (us.getD i pk0).cells[j]? := fun i hi j hj => by
        have hx := flat_get Pk.cells 4 Pk.cells_len pk0 us i j hi hj
        have hj' : j < (us.getD i pk0).cells.length := hj
        have e := h.cells (g := g) (by rw [hv]; rfl) (i * 4 + j) ((us.getD i pk0).cells[j]) (by rw [hx, List.getElem?_eq_getElem hj'])
        have ea : (⟨g, 0, none⟩ : Addr).add (i * 4 + j) = ⟨g, i * 4 + j, none⟩ := by unfold Addr.add; split <;> simp_all
        rw [ea] at e
        rw [e, List.getElem?_eq_getElem hj']
      refine .inr ⟨g, cap, hv, hb, by omega, ⟨lt_of_block hg, fun j hj => ?_, fun j hj => ?_, fun j hj => ?_, fun j hj => ?_⟩, by rw [hv]; rfl⟩
      · have := hc j hj 0 (by omega); simpa [Pk.cells] using this
      · have := hc j hj 1 (by omega); simpa [Pk.cells] using this
      · have := hc j hj 2 (by omega); simpa [Pk.cells] using this
      · have := hc j hj 3 (by omega); simpa [Pk.cells] using this

theorem find1_any (i bb bi p gg n c : Nat) (x id : Int) (W : World) (hb : W.cell? ⟨bb, 0, none⟩ = some (.pointer (some ⟨p, 0, none⟩))) (hi : W.cell? ⟨bi, 0, none⟩ = some (.int .i64 id))
    (h0 : W.cell? ⟨p, 0, none⟩ = some (.slice (some ⟨gg, 0, none⟩) n c)) (hx : W.cell? ⟨gg, i * 4, none⟩ = some (.int .i64 x)) (hin : i < n) :
    Calls Tryd.prog 54 (#[.int .i64 i] ++ #[.pointer (some ⟨bb, 0, none⟩), .pointer (some ⟨bi, 0, none⟩)]) W fun e w' => e = .returned (.bool (decide (id ≤ x))) ∧ Below W.heap.size W w' := by
  have hi0 : (0 : Int) ≤ (i : Int) := Int.natCast_nonneg _
  have hi1 : (i : Int) < (n : Int) := by omega
  go_enter Tryd.func54, Tryd.ntmps54
  go_wp2_with fail
  go_quiet (fail)
  go_wp2
  go_ret
  exact ⟨rfl, ⟨rfl, rfl, rfl, Nat.le_refl _, fun _ _ => rfl⟩⟩

set_option maxHeartbeats 2000000 in
set_option maxRecDepth 1000000 in
theorem search_any (f : Nat) (cb : Array Value) (n : Nat) (p : Nat → Bool) (w : World) (eg : ∀ args w, (callFunc f args).run Tryd.prog w = .ok (.enter f args) w) (hsz : n ≤ 4000)
    (hf : ∀ (W : World) (i : Nat), i < n → Below w.heap.size w W → Calls Tryd.prog f (#[.int .i64 i] ++ cb) W fun e w' => e = .returned (.bool (p i)) ∧ Below w.heap.size w w')
    (hmono : ∀ a b, a ≤ b → b < n → p a = true → p b = true) :
    Calls Tryd.prog 53 #[.int .i64 n, .func (.func f) #[] cb] w fun e w' => (∃ r : Nat, r ≤ n ∧ e = .returned (.int .i64 r) ∧ (∀ t, t < r → p t = false) ∧ ∀ t, r ≤ t → t < n → p t = true) ∧ Below w.heap.size w w' := by
  have HF : Hid _ := hf
  have M : Hid _ := hmono
  clear hf hmono
  go_enter Tryd.func53, Tryd.ntmps53
  go_wp2
  go_loopg [5, 6] n (fun kx s5 s6 wr => ∃ lo hi : Nat, s5 = .int .i64 lo ∧ s6 = .int .i64 hi ∧ lo ≤ hi ∧ hi ≤ n ∧ hi - lo ≤ kx ∧ Hid (Below w.heap.size w wr) ∧ Hid ((∀ t, t < lo → p t = false) ∧ (∀ t, hi ≤ t → t < n → p t = true)))
  case atStart => exact ⟨0, n, rfl, rfl, Nat.zero_le _, Nat.le_refl _, by omega, (Below.refl _ _ : Below w.heap.size w w), (⟨fun t ht => absurd ht (Nat.not_lt_zero _), fun t h1 h2 => by omega⟩ : (∀ t, t < 0 → p t = false) ∧ (∀ t, n ≤ t → t < n → p t = true))⟩
  case round =>
    obtain ⟨lo, hi, rfl, rfl, hlh, hin, hg, HB, I⟩ := hrel
    by_cases hlt : lo < hi
    · have hc := HF.out wr ((lo + hi) / 2) (by omega) HB.out
      rw [show (((lo + hi) / 2 : Nat) : Int) = ((lo : Int) + (hi : Int)) / 2 by omega] at hc
      cases hp : p ((lo + hi) / 2) <;> rw [hp] at hc
      · have HP : Hid (p ((lo + hi) / 2) = false) := hp
        clear hp
        go_wp2_with fail
        refine hc.mono ?_
        rintro e w' ⟨rfl, hb'⟩
        go_wp2
        go_roundg (hi - ((lo + hi) / 2 + 1))
        case measure => omega
        case rel =>
          have I2 : Hid ((∀ t, t < (lo + hi) / 2 + 1 → p t = false) ∧ (∀ t, hi ≤ t → t < n → p t = true)) := ⟨fun t ht => (by
            cases h : p t with
            | false => rfl
            | true => have := M.out t ((lo + hi) / 2) (by omega) (by omega) h; rw [HP.out] at this; cases this), I.out.2⟩
          exact ⟨(lo + hi) / 2 + 1, hi, by rw [show ((lo : Int) + (hi : Int)) / 2 + 1 = (((lo + hi) / 2 + 1 : Nat) : Int) by omega], rfl, by omega, hin, Nat.le_refl _, hb', I2⟩
      · have HP : Hid (p ((lo + hi) / 2) = true) := hp
        clear hp
        go_wp2_with fail
        refine hc.mono ?_
        rintro e w' ⟨rfl, hb'⟩
        go_wp2
        go_roundg ((lo + hi) / 2 - lo)
        case measure => omega
        case rel =>
          have I2 : Hid ((∀ t, t < lo → p t = false) ∧ (∀ t, (lo + hi) / 2 ≤ t → t < n → p t = true)) := ⟨I.out.1, fun t ht htn => M.out ((lo + hi) / 2) t ht htn HP.out⟩
          exact ⟨lo, (lo + hi) / 2, rfl, by rw [show ((lo : Int) + (hi : Int)) / 2 = (((lo + hi) / 2 : Nat) : Int) by omega], by omega, by omega, Nat.le_refl _, hb', I2⟩
    · obtain rfl : hi = lo := by omega
      go_wp2
      go_ret
      exact ⟨⟨hi, hin, rfl, I.out.1, I.out.2⟩, HB.out⟩
end Go.Proofs.YtgbdnclolgdojaaDoor
