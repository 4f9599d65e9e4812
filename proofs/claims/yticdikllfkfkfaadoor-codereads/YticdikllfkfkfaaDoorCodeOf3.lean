/- api.Of of a reader's error is its code. -/
import Derived.Test.YticdikllfkfkfaaDoorCodeOf2
namespace Go.Proofs.YticdikllfkfkfaaDoor
open Go.ChangeShapes Go.WideShapes Go.ChangeAt Go.RowKit Go.Extern.Stop Go.Stop Go.Extern
set_option linter.unusedVariables false

theorem of_nil (w : World) : Calls Tryd.prog 21 #[.nilIface] w fun e w' => e = .returned (.int .i64 0) ∧ w' = w := by
  go_enter Tryd.func21, Tryd.ntmps21
  go_wp2
  go_ret
  exact ⟨rfl, rfl⟩

theorem of_fault (g c : Nat) (w : World) (hg : ErrType w) (hF : IsFault w (.iface 68 (.pointer (some ⟨g, 0, none⟩))) c) :
    Calls Tryd.prog 21 #[.iface 68 (.pointer (some ⟨g, 0, none⟩))] w fun e w' => e = .returned (.int .i64 c) ∧ Below w.heap.size w w' := by
  have hlt := hg.lt
  obtain ⟨g', at7, hv, hF'⟩ := hF
  have hgg : g' = g := by simpa using hv.symm
  subst hgg
  have hgl := lt_of_block hF'
  have hg1 : ErrType (w.alloc (.cells #[.int .i64 0] 45)) := hg.below hlt ((Below.refl _ _).alloc (Nat.le_of_lt (Nat.lt_of_lt_of_le Nat.zero_lt_one hlt)) _ |>.mono (Nat.le_refl _) |> fun h => ⟨h.os, h.tape, h.output, h.size, fun k hk => Below.heap_alloc w _ k hk⟩)
  have hc1 : (w.alloc (.cells #[.int .i64 0] 45)).cell? ⟨g', 2, none⟩ = some (.iface 45 (.int .i64 c)) := by
    rw [World.cell?_alloc_lt _ _ ⟨g', 2, none⟩ hgl]; simp [World.cell?, hF']
  clear hF' hv
  go_enter Tryd.func21, Tryd.ntmps21
  go_wp2_with fail
  refine (as_fault g' w.heap.size c (.int .i64 0) _ hg1 (by simp) (by simp) hc1).mono ?_
  rintro e w' ⟨rfl, hw'⟩
  have hb : Below w.heap.size w w' := by
    rw [hw']
    refine Below.setCell (((((Below.refl _ _).alloc (Nat.le_refl _) _).alloc (by simp) _).alloc (by simp; omega) _).alloc (by simp; omega) _ |>.alloc (by simp; omega) _) (Nat.le_refl _) _
  have hcell : w'.cell? ⟨w.heap.size, 0, none⟩ = some (.int .i64 c) := by
    rw [hw']
    refine World.cell?_setCell_same' _ _ _ ?_
    rw [World.cell?_alloc_lt _ _ ⟨w.heap.size, 0, none⟩ (by simp; omega), World.cell?_alloc_lt _ _ ⟨w.heap.size, 0, none⟩ (by simp; omega), World.cell?_alloc_lt _ _ ⟨w.heap.size, 0, none⟩ (by simp; omega), World.cell?_alloc_lt _ _ ⟨w.heap.size, 0, none⟩ (by simp)]
    simp
  clear hw'
  go_wp2
  go_ret
  exact ⟨rfl, hb⟩

end Go.Proofs.YticdikllfkfkfaaDoor
