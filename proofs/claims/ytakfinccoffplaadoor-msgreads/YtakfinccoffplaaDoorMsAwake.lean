/- The answers that the document fixes for layer 15 (awake) are so. -/
import Derived.Test.YtakfinccoffplaaDoorMsRd
import Derived.Test.YtakfinccoffplaaDoorMsBy
namespace Go.Proofs.YtakfinccoffplaaDoor
open Go.ChangeShapes Go.WideShapes Go.ChangeAt Go.RowKit
set_option linter.unusedVariables false

def pr0 (g : ByteArray) : Mg := ⟨2, g, false, [], 0, 0, 0, [], ⟨#[]⟩⟩
def cf0 (g : ByteArray) (p q : Int) : Mg := ⟨5, g, false, [], p, q, 0, [], ⟨#[]⟩⟩
theorem pr_chk : chk (pr0 ⟨#[103]⟩) = 0 := by decide
theorem pr_mB : mB (pr0 ⟨#[103]⟩) = [4, 1, 103] := by decide
theorem cf_chk : chk (cf0 ⟨#[103]⟩ 1 2) = 0 := by decide
theorem cf_mB : mB (cf0 ⟨#[103]⟩ 1 2) = [10, 1, 103, 2, 4] := by decide
theorem pr_by : byR (pr0 ⟨#[103]⟩) = (⟨#[4, 1, 103]⟩, 0) := by
  unfold byR; rw [if_pos pr_chk, pr_mB]; rfl
theorem cf_by : byR (cf0 ⟨#[103]⟩ 1 2) = (⟨#[10, 1, 103, 2, 4]⟩, 0) := by
  unfold byR; rw [if_pos cf_chk, cf_mB]; rfl
theorem pr_rd : rdM (ByteArray.data ⟨#[4, 1, 103]⟩).toList = (pr0 ⟨#[103]⟩, 0) := by
  have := rdM_back (pr0 ⟨#[103]⟩) [] (by intro v hv; cases hv) pr_chk (by rw [pr_mB]; simp)
  rw [pr_mB] at this
  simpa using this
theorem ErrIs.zero {w : World} {v : Value} (h : ErrIs w v 0) : v = .nilIface := by
  rcases h with ⟨_, h⟩ | ⟨h, _⟩ | ⟨h, _⟩
  · exact h
  · exact absurd rfl h
  · exact absurd rfl h
theorem ErrIs.some {w : World} {v : Value} {c : Nat} (h : ErrIs w v c) (hc : c ≠ 0) : ∃ t x, v = .iface t x := by
  rcases h with ⟨h, _⟩ | ⟨_, h⟩ | ⟨_, g, a, h, _⟩
  · exact absurd h hc
  · exact ⟨_, _, h⟩
  · exact ⟨_, _, h⟩
theorem by_len {m : Mg} (h : m.fl = []) (h2 : m.vl = []) (h3 : m.pay = ⟨#[]⟩) : (m.fl.flatMap txtB).length + (m.vl.flatMap vlB).length + (txtB m.pay).length ≤ 700000 := by
  rw [h, h2, h3]; decide

set_option maxRecDepth 100000 in
theorem awake15_any (w : World) :
    Calls Tryd.prog 9 #[] w fun e w' => e = .returned (.bool true) ∧ Below w.heap.size w w' := by
  have c1 := mbytes_any (pr0 ⟨#[103]⟩) none 0 none 0 w in_nil in_nil (by decide) (by_len rfl rfl rfl)
  rw [pr_by] at c1
  have c2 : ∀ W, _ := fun W => mbytes_any (cf0 ⟨#[103]⟩ 1 2) none 0 none 0 W in_nil in_nil (by decide) (by_len rfl rfl rfl)
  rw [cf_by] at c2
  have c3 : ∀ W, _ := fun W => mread_any ⟨#[4, 1, 103]⟩ W (by decide)
  rw [pr_rd] at c3
  go_enter Tryd.func9, Tryd.ntmps9
  go_wp2_with fail
  refine c1.mono ?_
  rintro e w1 ⟨rfl, hb1⟩
  simp only [cdV0]
  go_wp2_with fail
  refine (c2 _).mono ?_
  rintro e w2 ⟨rfl, hb2⟩
  simp only [cdV0]
  go_wp2_with fail
  refine (c3 _).mono ?_
  rintro e w3 ⟨fa, fc, va, vc, ev, rfl, hE, _, _, hb3⟩
  have := hE.zero
  subst this
  have hb := hb1.trans ((hb2.mono hb1.size).trans (hb3.mono (Nat.le_trans hb1.size hb2.size)))
  simp only [Mg.val, pr0]
  clear c1 c2 c3 hE
  go_wp2
  go_ret
  exact ⟨rfl, hb.alloc (by have := hb.size; exact this) _⟩
end Go.Proofs.YtakfinccoffplaaDoor
