/- Proved: for every cell and every number of levels, DyadChains answers true (each interval of a cell's chain has the cell, and half as many cells as the one ahead).
  The frame is the guide's own shell (proof-skeleton.mjs) at this function; the walk and all ahead of it are mine. -/
import Derived.Test.YthpcaaidimmafabRows
import Derived.Test.YthpcaaidimmafabDyCov2
import Derived.WalkKit
import Derived.WalkLawsBesides
import Derived.ProofKit
import Derived.OpenShut
import Derived.ShutString
namespace Go.Proofs.Ythpcaaidimmafab.dyadChains
open Go.ChangeShapes Go.WideShapes Go.ChangeAt Go.RowKit
open Go.ChangeMaps (open_string shut_string)
set_option linter.unusedVariables false      -- a walk need not use every 'w<i>' (that an integer argument fits its kind)

theorem own : ownKnob Try.prog.godebug = none := by kernel_rfl


/-! ### STEP 1: THE WALK: the Go text returns true. 'Grown w w'': the world has at most new blocks (Derived/RowKit3.lean). Part the cases AHEAD of 'go_enter' where a test parts the walk; take each callee by a contract of your own. -/
set_option maxRecDepth 100000 in
set_option maxHeartbeats 2000000 in
theorem walk (a0 : Int) (a1 : Int) (w0 : (Lit.int .i64 a0).wf = true) (w1 : (Lit.int .i64 a1).wf = true) (w : World) :
    Calls Try.prog 3 #[.int .i64 a0, .int .i64 a1] w fun e w' => e = .returned (.bool true) ∧ Below w.heap.size w w' := by
  clear w0 w1
  by_cases hgd : (Iv.mk a1 a0).good a1
  · obtain ⟨l, c, n, e1, rfl, _, hn, hcn⟩ := Iv.good_nat hgd
    simp at e1
    obtain ⟨e1, rfl⟩ := e1
    obtain rfl : l = n := by omega
    clear hgd e1
    have HC : Hid _ := chain_yes c l w hn hcn
    have HCN : Hid (c < 2 ^ l) := hcn
    have h256 := pow_le_256 hn
    have hc256 : c < 256 := by omega
    clear hcn h256
    go_enter Try.func3, Try.ntmps3
    go_wp2_with fail
    refine Calls.mono HC.out ?_
    rintro e w1 ⟨v, rfl, hr⟩
    obtain ⟨a, cp, rfl, hsh⟩ := hr.isIn.shape
    rw [chain_len] at hsh ⊢
    obtain ⟨g, rfl, hg, hcap, hj⟩ := hsh (by omega)
    have HJ : Hid _ := hj
    have HB : Hid (Below w.heap.size w w1) := hr.bel
    clear hr hsh hj
    go_wp2
    go_loopg [15] (l + 1) (fun kx s15 wr => ∃ k : Nat, s15 = .int .i64 k ∧ k ≤ l + 1 ∧ kx = l + 1 - k ∧ Hid (Below w1.heap.size w1 wr))
    case atStart => exact ⟨0, rfl, Nat.zero_le _, rfl, (Below.refl _ _ : Below w1.heap.size w1 w1)⟩
    case round =>
      obtain ⟨k, rfl, hk, rfl, HB1⟩ := hrel
      by_cases hlt : k < l + 1
      · obtain ⟨c0, c1⟩ := HJ.out k hlt
        rw [chain_get c l k (by omega)] at c0 c1
        have e : ∀ o, wr.cell? ⟨g, o, none⟩ = w1.cell? ⟨g, o, none⟩ := fun o => HB1.out.cell (p := ⟨g, o, none⟩) hg
        rw [← e] at c0 c1
        have hcl := fun W => cells_yes k (c / 2 ^ (l - k)) l W (by omega) hn (chain_fit c c l k (by omega) HCN.out)
        have hsub : ((l : Int) - (k : Int)).toNat = l - k := by omega
        have hw : IntKind.i64.wrap (2 ^ (l - k)) = ((2 ^ (l - k) : Nat) : Int) := by rw [wrap_pow (by omega)]; simp
        have hpw : (2 : Int) ^ (l - k) = ((2 ^ (l - k) : Nat) : Int) := by simp
        have hp1 := pow_pos2 (l - k)
        have hp2 := pow_le_256 (show l - k ≤ 8 by omega)
        have hd1 : c / 2 ^ (l - k) * 2 ^ (l - k) ≤ c := Nat.div_mul_le_self _ _
        have hd2 : c < c / 2 ^ (l - k) * 2 ^ (l - k) + 2 ^ (l - k) := by
          have := Nat.div_add_mod c (2 ^ (l - k)); have h2 := Nat.mod_lt c hp1; rw [Nat.mul_comm] at this; omega
        rw [Nat.add_mul, Nat.one_mul] at hcl
        dsimp only at c0 c1
        generalize 2 ^ (l - k) = P at *
        generalize c / P = q at *
        generalize q * P = A at *
        have hlt1 : g < wr.heap.size := Nat.lt_of_lt_of_le hg HB1.out.size
        have HCL : Hid _ := hcl
        clear e hcl
        go_wp2_with fail
        refine Calls.mono (HCL.out _) ?_
        rintro e w2 ⟨rfl, hb2⟩
        have k0 := hb2.cell (p := ⟨wr.heap.size, 0, none⟩) (by simp)
        have k1 := hb2.cell (p := ⟨wr.heap.size, 1, none⟩) (by simp)
        simp at k0 k1
        have HB2 : Hid (Below w1.heap.size w1 w2) := HB1.out.trans (((dbel1 wr _).trans (hb2.mono (by simp))).mono HB1.out.size)
        have hz2 : wr.heap.size < w2.heap.size := by have := hb2.size; simp at this; omega
        clear hb2 c0 c1
        have t1 : ¬ c < A := by omega
        have t2 : ¬ ((A : Int) + (P : Int) - 1 < (c : Int)) := by omega
        have t3 : (((A : Int) + (P : Int) - 1 - (A : Int) + 1) != (P : Int)) = false := by simp; omega
        go_wp2
        go_roundg (l + 1 - (k + 1))
        case measure => omega
        case rel => exact ⟨k + 1, by go_num, by omega, rfl, HB2⟩
      · obtain rfl : k = l + 1 := by omega
        go_wp2_with fail
        refine (awake7_any _).mono ?_
        rintro e w2 ⟨rfl, hb2⟩
        have HB2 : Hid (Below w.heap.size w w2) := HB.out.trans ((HB1.out.trans (hb2.mono HB1.out.size)).mono HB.out.size)
        clear hb2
        go_wp2
        go_ret
        exact ⟨rfl, HB2.out⟩
  · have HC : Hid _ := chain_no a0 a1 w hgd
    clear hgd
    go_enter Try.func3, Try.ntmps3
    go_wp2_with fail
    refine Calls.mono HC.out ?_
    rintro e w1 ⟨rfl, hb1⟩
    have HB : Hid (Below w.heap.size w w1) := hb1
    clear hb1
    go_wp2
    refine wp_loop_rounds 1 ?_
    rw [rounds_succ]
    go_wp2_with fail
    refine (awake7_any _).mono ?_
    rintro e w2 ⟨rfl, hb2⟩
    have HB2 : Hid (Below w.heap.size w w2) := HB.out.trans (hb2.mono HB.out.size)
    clear hb2
    go_wp2
    go_ret
    exact ⟨rfl, HB2.out⟩

/-! ### THE ROW's STEP: WRITTEN OUT: LEAVE IT -/
set_option maxRecDepth 100000 in
theorem lifted (os : Os) (started : os.Started) (H : Type) (enc : TypeId × Value → H) :
    ReturnsInHanded {} Try.checked os 3 .any (Rows.dyadChainsSpec.pre6 enc Try.prog Try.f3 Rows.dyadChainsRow.domain false) (Rows.dyadChainsSpec.post enc Try.prog Try.f3 false true false false) := by
  refine returnsInHanded_of_change (C := Try.checked) own started (by kernel_rfl) Try.func3
    (ChangeSpec.witness6 (enc := enc) (C := Try.checked) false ⟨#[], #[.int .i64 0, .int .i64 0], []⟩ 8 (by kernel_rfl) (by kernel_rfl) (by kernel_rfl) (by kernel_rfl)) ?_
  intro W base args ds gs before hval0 hW hcnd _
  have hval : ∀ (j : Nat) t v, Try.f3.params[j]? = some t → args[j]? = some v → Value.okWide Try.prog W .any base t v := hval0
  have hW' := hW
  obtain ⟨p, q, hA0, hV, rfl, hfz, hnd⟩ := hW
  have hA : DataW.TrodAll enc Try.prog W 0 (fun _ => true) true Try.f3.params.toList args.toList ds p := hA0
  rw [Try.params3] at hA hval
  obtain ⟨v0, vs0, d0, ds0, p0, q0, hargs, rfl, rfl, h0, r0⟩ := trodAll_cons hA
  obtain ⟨v1, vs1, d1, ds1, p1, q1, rfl, rfl, rfl, h1, r1⟩ := trodAll_cons r0
  obtain ⟨rfl, rfl, rfl⟩ := trodAll_nil r1
  obtain rfl : args = #[v0, v1] := by cases args; simp_all
  obtain ⟨rfl, rfl⟩ := trodVars_none hV
  obtain ⟨a0, rfl, rfl, rfl, w0⟩ := open_int Try.underlying3 (hval 0 3 v0 rfl rfl) h0
  obtain ⟨a1, rfl, rfl, rfl, w1⟩ := open_int Try.underlying3 (hval 1 3 v1 rfl rfl) h1
  clear hA0 hval0
  simp only [List.append_nil] at hW'
  refine (walk a0 a1 w0 w1 W).mono fun e W' ⟨he, bel⟩ => ?_
  subst he
  exact ⟨_, rfl, _, _, _, [], [], [], hW', trodAll_mk1 (shut_bool Try.underlying4 _), (trodAll_cons_mk (shut_int Try.underlying3 w0) (trodAll_cons_mk (shut_int Try.underlying3 w1) trodAll_mk0)), rfl, bel.frame _, fun h => by cases h⟩

theorem over : Rows.dyadChainsRow.holds Try.pinned (OpenSpec.ofChange Rows.dyadChainsSpec) :=
  OpenClaim.holds_of_wide 3 Try.f3 rfl rfl rfl rfl rfl rfl rfl ⟨rfl, rfl, rfl, rfl, rfl⟩ rfl rfl rfl rfl rfl (by kernel_rfl) Try.func3 (by kernel_rfl)
    (of_decide_eq_true (by kernel_rfl)) (by unfold Func.isWrapper; first | (rw [if_pos (by decide +kernel)]; kernel_rfl) | (rw [if_neg (by decide +kernel)]; exact ⟨rfl, rfl⟩))
    (fun os started H enc _ => lifted os started H enc)

end Go.Proofs.Ythpcaaidimmafab.dyadChains

namespace Go.Proofs.Ythpcaaidimmafab
/-- Proved: for every cell and every number of levels, DyadChains answers true (each interval of a cell's chain has the cell, and half as many cells as the one ahead). -/
theorem dyadChains_holds : Rows.DyadChainsSaid := dyadChains.over
#print axioms dyadChains_holds
end Go.Proofs.Ythpcaaidimmafab
