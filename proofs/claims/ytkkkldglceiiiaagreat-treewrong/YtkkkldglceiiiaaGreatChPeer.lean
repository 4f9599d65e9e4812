/- slices.Clone at ints; Peer; Round. -/
import Derived.Test.YtkkkldglceiiiaaGreatChStab
import Derived.Lib.SliceRun
namespace Go.Proofs.YtkkkldglceiiiaaGreat
open Go.ChangeShapes Go.WideShapes Go.ChangeAt Go.RowKit Go.Deep
set_option linter.unusedVariables false

set_option maxRecDepth 100000 in
set_option maxHeartbeats 1000000 in
theorem clone_i (a : Option Addr) (len cap : Nat) (l : List Int) (w : World) (hl : InIn w a len l) (hnil : a = none → len = 0) (hlen : len ≤ 1000) :
    Calls Tryz.prog 43 #[.slice a len cap] w fun e w' => ∃ a' c', e = .returned (.slice a' len c') ∧ InIn w' a' len l ∧ len ≤ c' ∧ c' ≤ 9223372036854775807 ∧ (a' = none → len = 0) ∧ (∀ x, a' = some x → w.heap.size ≤ x.block) ∧ Below w.heap.size w w' := by
  obtain ⟨i0, hi, hz0, hz1, hz2⟩ := info_of Tryz.infoInt
  have qT : ∀ (w : World) (a : Option Addr) (n c n' c' : Nat), (binOp .eql 30 (.slice a n c) (.slice none n' c')).run Tryz.prog w = .ok (.bool a.isNone) w := fun w a n c n' c' => Lib.run_eql_slice_nil w _ _ a n c n' c' Tryz.underlying30
  rcases a with _ | x
  · obtain rfl := hnil rfl
    have HL : Hid (InIn w none 0 l) := hl
    clear hl hnil
    go_enter Tryz.func43, Tryz.ntmps43
    go_wp2
    go_ret
    exact ⟨none, 0, rfl, HL.out, by omega, by omega, by simp, by simp, Below.refl _ _⟩
  · have HL : Hid (InIn w (some x) len l) := hl
    have HS : Hid (Src Tryz.prog 1 30 (.slice (some x) len cap) len (l.map cellI) (w.alloc (.cells #[] 3))) := src_ints (hl.below (Nat.le_refl _) (below_one _ _)) hnil
    have HO : Hid ((w.alloc (.cells #[] 3)).ownsRow w.heap.size 3 1 (.slice (some ⟨w.heap.size, 0, none⟩) 0 0) 0 []) :=
      ⟨rfl, .inr ⟨w.heap.size, 0, #[], rfl, Nat.le_refl _, heap_alloc_new w _, Nat.le_refl _, by decide, rfl, rfl⟩⟩
    clear hl hnil
    go_enter Tryz.func43, Tryz.ntmps43
    go_wp2_with (at_builtin; refine wpList_own_append _ rfl _ _ 30 30 rfl w.heap.size 3 i0 _ 8 Tryz.underlying30 hi hz0 hz1 hz2 rfl _ _ _ rfl HO.out _ len _ rfl HS.out ?c3 ?c4 ?c5 ?_)
    case c3 => unfold maxLen; omega
    case c4 => omega
    case c5 => simp
    intro v' w1 ha
    have HA : Hid _ := ha
    obtain ⟨a', c', hv'⟩ := ha.shape
    subst hv'
    clear ha
    go_wp2
    go_ret
    have hg := HA.out.grown
    have hr : w1.ownsRow w.heap.size 3 1 (.slice a' len c') len (l.map cellI) := by simpa using HA.out.row
    refine ⟨a', c', by simp, in_of_own hr (ints_ok HL.out) (by omega), (own_caps hr).1, (own_caps hr).2, fun e => ?_, own_new hr, (below_one _ _).trans ⟨hg.os, hg.tape, hg.output, hg.size, fun k hk => hg.block k (by simp; omega) (by simp [Value.ownBlock]; omega)⟩⟩
    subst e
    rcases hr.2 with ⟨_, e⟩ | ⟨g, cap, cur, hv, _⟩
    · exact e
    · cases hv


def Rg.round (R : Rg) : Rg := R.live.foldl (fun R n => R.stab n) R

end Go.Proofs.YtkkkldglceiiiaaGreat
