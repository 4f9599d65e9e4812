/- Proved: for every message and int, MsgKinds answers true (what a kind doesn't have makes a message that is right none).
  The frame is the guide's own shell (proof-skeleton.mjs) at this function; the walk and all ahead of it are mine. -/
import Derived.Test.YtnikliadfcgjiaaRows
import Derived.Test.YtnikliadfcgjiaaAid
import Derived.Test.YtnikliadfcgjiaaCodeMath
import Derived.Test.YtnikliadfcgjiaaBagMath
import Derived.Test.YtnikliadfcgjiaaCut
import Derived.Test.YtnikliadfcgjiaaMsMath
import Derived.Test.YtnikliadfcgjiaaMsChk
import Derived.Test.YtnikliadfcgjiaaMsWr
import Derived.Test.YtnikliadfcgjiaaMsBy
import Derived.Test.YtnikliadfcgjiaaMsRd
import Derived.Test.YtnikliadfcgjiaaMsAwake
import Derived.Test.YtnikliadfcgjiaaMsAid
import Derived.Test.YtnikliadfcgjiaaMsCut
import Derived.Test.YtnikliadfcgjiaaMsRow
import Derived.Deep.CutBlock
import Derived.Deep.DeepCutAuto
import Derived.WalkKit
import Derived.WalkLawsBesides
import Derived.ProofKit
import Derived.OpenShut
import Derived.ShutString
import Derived.ChangeOld
import Derived.Below
namespace Go.Proofs.Ytnikliadfcgjiaa.msgKinds
open Go.ChangeShapes Go.WideShapes Go.ChangeAt Go.RowKit
open Go.ChangeMaps (open_string shut_string)
set_option linter.unusedVariables false

theorem own : ownKnob Try.prog.godebug = none := by kernel_rfl
theorem laidOut : laidOutB Try.prog = true := by kernel_rfl


theorem k0a (c : Mg) (h : ¬ c.kind = 3) : chk { c with hops := 1 } ≠ 0 := by
  unfold chk; split
  · omega
  · rw [if_pos (.inr ⟨h, by simp⟩)]; omega
theorem k0b (c : Mg) (h : c.kind = 3) : chk { c with hops := 66 } ≠ 0 := by
  unfold chk; split
  · omega
  · split
    · omega
    · unfold chkK
      rw [if_neg (by show ¬ c.kind = 1; omega), if_neg (by show ¬ c.kind = 2; omega), if_neg (by show ¬ c.kind = 5; omega), if_pos (.inl h)]
      unfold chkE; rw [if_pos (by simp)]; omega
theorem k1 (c : Mg) (h : c.kind = 1 → 0 < c.fl.length) : chk { c with any := true } ≠ 0 := by
  unfold chk; split
  · omega
  · split
    · omega
    · rename_i hn
      by_cases k : c.kind = 1
      · unfold chkK
        rw [if_pos k, if_pos (.inl ⟨rfl, h k⟩)]; omega
      · exact absurd (.inl ⟨k, .inl rfl⟩) hn
theorem k2 (c : Mg) : chk { c with group := ⟨#[]⟩ } ≠ 0 := by
  unfold chk; rw [if_pos (.inl (by show ByteArray.size ⟨#[]⟩ < 1; decide))]; omega
theorem k3 (c : Mg) : chk { c with kind := 6 } ≠ 0 := by
  unfold chk; split
  · omega
  · split
    · omega
    · unfold chkK; simp
theorem k4 (c : Mg) : chk { c with seq := -1 } ≠ 0 := by
  unfold chk; split
  · omega
  · split
    · omega
    · unfold chkK chkP chkE
      simp only
      split
      · split
        · omega
        · rw [if_pos (by simp)]; omega
      · split
        · rw [if_pos (by simp)]; omega
        · split
          · split
            · omega
            · rw [if_pos (by simp)]; omega
          · split
            · rw [if_pos (by simp)]; omega
            · omega
/-! ### STEP 1: the walk -/
set_option maxRecDepth 100000 in
set_option maxHeartbeats 2000000 in
theorem walk (a0 : Mg) (fa0 : Option Addr) (fc0 : Nat) (va0 : Option Addr) (vc0 : Nat) (a1 : Int) (w : World) (w0 : MsOk w a0 fa0 va0) (w1 : (Lit.int .i64 a1).wf = true) :
    Calls Try.prog 5 #[a0.val fa0 fc0 va0 vc0, .int .i64 a1] w fun e w' => e = .returned (.bool true) ∧ Below w.heap.size w w' := by
  have hcut : ∀ W, Below w.heap.size w W → _ := fun W hb => cut15_any a0 fa0 fc0 va0 vc0 W (w0.fr.below (Nat.le_refl _) hb) (w0.vr.below (Nat.le_refl _) hb) w0.gs w0.ps
  have hsm : (cutM a0).group.size ≤ 9223372036854775807 := by have := cut_size a0.group 50; show (cut a0.group 50).size ≤ _; omega
  generalize cutM a0 = c at hcut hsm
  obtain ⟨w1, hw1⟩ : ∃ W, W = w.alloc (.cells #[.int .i64 a0.kind, .string a0.group, .bool a0.any, .slice fa0 a0.fl.length fc0, .int .i64 a0.pub, .int .i64 a0.seq, .int .i64 a0.hops, .slice va0 a0.vl.length vc0, .string a0.pay] 27) := ⟨_, rfl⟩
  have b1 : Below w.heap.size w w1 := by rw [hw1]; exact below1 _ _
  have p1 : w1.heap[w.heap.size]? = some (.cells #[.int .i64 a0.kind, .string a0.group, .bool a0.any, .slice fa0 a0.fl.length fc0, .int .i64 a0.pub, .int .i64 a0.seq, .int .i64 a0.hops, .slice va0 a0.vl.length vc0, .string a0.pay] 27 (0, 0)) := by rw [hw1]; exact heap_alloc_new w _
  obtain ⟨x0, x1, x2, x3, x4, x5, x6, x7, x8⟩ := cells9 p1
  have xl := lt_of_block p1
  unfold Mg.val
  go_enter Try.func5, Try.ntmps5
  go_upto_region 1 with fail
  rw [← hw1]
  clear hw1
  go_wp2_with fail
  refine (hcut _ b1).mono ?_
  rintro e w2 ⟨fa, fc, va, vc, rfl, hf2, hv2, hb2⟩
  have p2 := (hb2.block _ xl).trans p1
  obtain ⟨y0, y1, y2, y3, y4, y5, y6, y7, y8⟩ := cells9 p2
  have yf := frozen9 p2
  have yl := lt_of_block p2
  obtain ⟨w3, hw3⟩ : ∃ W, W = sets9 w2 w.heap.size (.int .i64 c.kind) (.string c.group) (.bool c.any) (.slice fa c.fl.length fc) (.int .i64 c.pub) (.int .i64 c.seq) (.int .i64 c.hops) (.slice va c.vl.length vc) (.string c.pay) := ⟨_, rfl⟩
  have p3 : w3.heap[w.heap.size]? = _ := (congrArg (fun W : World => W.heap[w.heap.size]?) hw3).trans (sets9_box p2)
  have b3 : Below w.heap.size w w3 := by
    refine below_sets (b1.trans (hb2.mono b1.size)) (by rw [hw3, sets9_size]; exact Nat.le_refl _) ?_ ?_ ?_ (fun k hk => by rw [hw3]; exact sets9_other hk)
    · rw [hw3]; exact sets9_rest.1
    · rw [hw3]; exact sets9_rest.2.1
    · rw [hw3]; exact sets9_rest.2.2
  have H3 : (((((((((w2.setCell ⟨w.heap.size, 0, none⟩ (.int .i64 c.kind)).setCell ⟨w.heap.size, 1, none⟩ (.string c.group)).setCell ⟨w.heap.size, 2, none⟩ (.bool c.any)).setCell ⟨w.heap.size, 3, none⟩ (.slice fa c.fl.length fc)).setCell ⟨w.heap.size, 4, none⟩ (.int .i64 c.pub)).setCell ⟨w.heap.size, 5, none⟩ (.int .i64 c.seq)).setCell ⟨w.heap.size, 6, none⟩ (.int .i64 c.hops)).setCell ⟨w.heap.size, 7, none⟩ (.slice va c.vl.length vc)).setCell ⟨w.heap.size, 8, none⟩ (.string c.pay)) = w3 := hw3.symm
  have hfl := hf2.2.1
  have hvl := hv2.2.1
  unfold Mg.val
  clear x0 x1 x2 x3 x4 x5 x6 x7 x8 xl p1 hcut
  have HH3 : Hid _ := H3
  clear H3 hw3
  go_upto_region 2 with fail
  rw [HH3.out]
  clear HH3 y0 y1 y2 y3 y4 y5 y6 y7 y8 yf yl p2
  obtain ⟨z0, z1, z2, z3, z4, z5, z6, z7, z8⟩ := cells9 p3
  have zl := lt_of_block p3
  have hck := mcheck_any c fa fc va vc w3 hsm hvl hfl
  unfold Mg.val at hck
  by_cases hc : chk c = 0
  · rw [hc, cdV0] at hck
    have HC : Hid (chk c = 0) := hc
    clear hc
    go_wp2_with fail
    refine hck.mono ?_
    rintro e w4 ⟨rfl, hb4⟩
    have e4 := below_cells hb4
    have b4 := b3.trans (hb4.mono b3.size)
    have zl4 : w.heap.size < w4.heap.size := by have := hb4.size; omega
    by_cases h0 : a1 = 0
    · have q0 := beq_t h0
      clear h0
      by_cases k : c.kind = 3
      · have qk := beq_t k
        have hne := k0b c k
        clear k
        have hck2 : ∀ W, _ := fun W => mcheck_any { c with hops := 66 } fa fc va vc W hsm hvl hfl
        simp only [cdV_ne _ hne] at hck2
        unfold Mg.val at hck2
        simp only at hck2
        go_wp2_with fail
        refine (awake15_any _).mono ?_
        rintro e w6 ⟨rfl, hb6⟩
        have e6 := below_cells hb6
        have hs6 := hb6.size
        simp at hs6
        have l6 : w4.heap.size < w6.heap.size := by omega
        go_wp2_with fail
        refine (hck2 _).mono ?_
        rintro e w7 ⟨rfl, hb7⟩
        go_wp2
        go_ret
        exact ⟨rfl, ((b4.alloc b4.size _).trans (hb6.mono (by have := b4.size; simp; omega))).trans (hb7.mono (by have := b4.size; omega))⟩
      · have qk := beq_f k
        have hck2 : ∀ W, _ := fun W => mcheck_any { c with hops := 1 } fa fc va vc W hsm hvl hfl
        simp only [cdV_ne _ (k0a c k)] at hck2
        unfold Mg.val at hck2
        simp only at hck2
        go_wp2_with fail
        refine (awake15_any _).mono ?_
        rintro e w6 ⟨rfl, hb6⟩
        have e6 := below_cells hb6
        have hs6 := hb6.size
        simp at hs6
        have l6 : w4.heap.size < w6.heap.size := by omega
        go_wp2_with fail
        refine (hck2 _).mono ?_
        rintro e w7 ⟨rfl, hb7⟩
        go_wp2
        go_ret
        exact ⟨rfl, ((b4.alloc b4.size _).trans (hb6.mono (by have := b4.size; simp; omega))).trans (hb7.mono (by have := b4.size; omega))⟩
    have q0 := beq_f h0
    by_cases h1 : a1 = 1
    · have q1 := beq_t h1
      clear h0 h1
      by_cases k : c.kind = 1 ∧ c.fl.length = 0
      · have qk := beq_t k.1
        have ql := beq_t (show (c.fl.length : Int) = 0 by omega)
        clear k
        go_wp2_with fail
        refine (awake15_any _).mono ?_
        rintro e w6 ⟨rfl, hb6⟩
        go_wp2
        go_ret
        exact ⟨rfl, (b4.alloc b4.size _).trans (hb6.mono (by have := b4.size; simp; omega))⟩
      · have hk1 : c.kind = 1 → 0 < c.fl.length := fun h => by
          by_cases z : c.fl.length = 0
          · exact absurd ⟨h, z⟩ k
          · omega
        have hcase : (c.kind == 1) = false ∨ ((c.kind == 1) = true ∧ ((c.fl.length : Int) == 0) = false) := by
          by_cases h : c.kind = 1
          · exact .inr ⟨beq_t h, beq_f (by have := hk1 h; omega)⟩
          · exact .inl (beq_f h)
        clear k
        rcases hcase with qk | ⟨qk, ql⟩
        all_goals
          have hck2 : ∀ W, _ := fun W => mcheck_any { c with any := true } fa fc va vc W hsm hvl hfl
          simp only [cdV_ne _ (k1 c hk1)] at hck2
          unfold Mg.val at hck2
          simp only at hck2
          go_wp2_with fail
          refine (awake15_any _).mono ?_
          rintro e w6 ⟨rfl, hb6⟩
          have e6 := below_cells hb6
          have hs6 := hb6.size
          simp at hs6
          have l6 : w4.heap.size < w6.heap.size := by omega
          go_wp2_with fail
          refine (hck2 _).mono ?_
          rintro e w7 ⟨rfl, hb7⟩
          go_wp2
          go_ret
          exact ⟨rfl, ((b4.alloc b4.size _).trans (hb6.mono (by have := b4.size; simp; omega))).trans (hb7.mono (by have := b4.size; omega))⟩
    have q1 := beq_f h1
    by_cases h2 : a1 = 2
    · have q2 := beq_t h2
      clear h0 h1 h2
      have hck2 : ∀ W, _ := fun W => mcheck_any { c with group := ⟨#[]⟩ } fa fc va vc W (by show (ByteArray.size ⟨#[]⟩) ≤ _; decide) hvl hfl
      simp only [cdV_ne _ (k2 c)] at hck2
      unfold Mg.val at hck2
      simp only at hck2
      go_wp2_with fail
      refine (awake15_any _).mono ?_
      rintro e w6 ⟨rfl, hb6⟩
      have e6 := below_cells hb6
      have hs6 := hb6.size
      simp at hs6
      have l6 : w4.heap.size < w6.heap.size := by omega
      go_wp2_with fail
      refine (hck2 _).mono ?_
      rintro e w7 ⟨rfl, hb7⟩
      go_wp2
      go_ret
      exact ⟨rfl, ((b4.alloc b4.size _).trans (hb6.mono (by have := b4.size; simp; omega))).trans (hb7.mono (by have := b4.size; omega))⟩
    have q2 := beq_f h2
    by_cases h3 : a1 = 3
    · have q3 := beq_t h3
      clear h0 h1 h2 h3
      have hck2 : ∀ W, _ := fun W => mcheck_any { c with kind := 6 } fa fc va vc W hsm hvl hfl
      simp only [cdV_ne _ (k3 c)] at hck2
      unfold Mg.val at hck2
      simp only at hck2
      go_wp2_with fail
      refine (awake15_any _).mono ?_
      rintro e w6 ⟨rfl, hb6⟩
      have e6 := below_cells hb6
      have hs6 := hb6.size
      simp at hs6
      have l6 : w4.heap.size < w6.heap.size := by omega
      go_wp2_with fail
      refine (hck2 _).mono ?_
      rintro e w7 ⟨rfl, hb7⟩
      go_wp2
      go_ret
      exact ⟨rfl, ((b4.alloc b4.size _).trans (hb6.mono (by have := b4.size; simp; omega))).trans (hb7.mono (by have := b4.size; omega))⟩
    have q3 := beq_f h3
    by_cases h4 : a1 = 4
    · have q4 := beq_t h4
      clear h0 h1 h2 h3 h4
      have hck2 : ∀ W, _ := fun W => mcheck_any { c with seq := -1 } fa fc va vc W hsm hvl hfl
      simp only [cdV_ne _ (k4 c)] at hck2
      unfold Mg.val at hck2
      simp only at hck2
      go_wp2_with fail
      refine (awake15_any _).mono ?_
      rintro e w6 ⟨rfl, hb6⟩
      have e6 := below_cells hb6
      have hs6 := hb6.size
      simp at hs6
      have l6 : w4.heap.size < w6.heap.size := by omega
      go_wp2_with fail
      refine (hck2 _).mono ?_
      rintro e w7 ⟨rfl, hb7⟩
      go_wp2
      go_ret
      exact ⟨rfl, ((b4.alloc b4.size _).trans (hb6.mono (by have := b4.size; simp; omega))).trans (hb7.mono (by have := b4.size; omega))⟩
    · have q4 := beq_f h4
      clear h0 h1 h2 h3 h4
      go_wp2_with fail
      refine (awake15_any _).mono ?_
      rintro e w6 ⟨rfl, hb6⟩
      go_wp2
      go_ret
      exact ⟨rfl, (b4.alloc b4.size _).trans (hb6.mono (by have := b4.size; simp; omega))⟩
  · rw [cdV_ne _ hc] at hck
    go_wp2_with fail
    refine hck.mono ?_
    rintro e w4 ⟨rfl, hb4⟩
    have b4 := b3.trans (hb4.mono b3.size)
    go_wp2_with fail
    refine (awake15_any _).mono ?_
    rintro e w6 ⟨rfl, hb6⟩
    go_wp2
    go_ret
    exact ⟨rfl, b4.trans (hb6.mono b4.size)⟩

/-! ### The row's step -/
set_option maxRecDepth 100000 in
theorem lifted (os : Os) (started : os.Started) (H : Type) (enc : TypeId × Value → H) :
    ReturnsInHanded {} Try.checked os 5 .any (Rows.msgKindsSpec.pre6 enc Try.prog Try.f5 Rows.msgKindsRow.domain false) (Rows.msgKindsSpec.post enc Try.prog Try.f5 false true false false) := by
  refine returnsInHanded_of_change (C := Try.checked) own started (by kernel_rfl) Try.func5
    (ChangeSpec.witness6 (enc := enc) (C := Try.checked) false ⟨#[], #[.agg #[.int .i64 0, .string ByteArray.empty, .bool false, .slice none 0 0, .int .i64 0, .int .i64 0, .int .i64 0, .slice none 0 0, .string ByteArray.empty], .int .i64 0], []⟩ 8 (by kernel_rfl) (by kernel_rfl) (by kernel_rfl) (by kernel_rfl)) ?_
  intro W base args ds gs before hval0 hW hcnd _
  have hval : ∀ (j : Nat) t v, Try.f5.params[j]? = some t → args[j]? = some v → Value.okWide Try.prog W .any base t v := hval0
  have hW' := hW
  obtain ⟨p, q, hA0, hV, rfl, hfz, hnd⟩ := hW
  have hA : DataW.TrodAll enc Try.prog W 0 (fun _ => true) true Try.f5.params.toList args.toList ds p := hA0
  rw [Try.params5] at hA hval
  obtain ⟨v0, vs0, d0, ds0, p0, q0, hargs, rfl, rfl, h0, r0⟩ := trodAll_cons hA
  obtain ⟨v1, vs1, d1, ds1, p1, q1, rfl, rfl, rfl, h1, r1⟩ := trodAll_cons r0
  obtain ⟨rfl, rfl, rfl⟩ := trodAll_nil r1
  obtain rfl : args = #[v0, v1] := by cases args; simp_all
  obtain ⟨rfl, rfl⟩ := trodVars_none hV
  obtain ⟨cs0, rfl, hcs0⟩ := okWide_struct Try.underlying27 (hval 0 27 v0 rfl rfl)
  have k0 := h0
  have lt0 : ∀ x ∈ p0, x.block < W.heap.size := by obtain ⟨m, hm⟩ := k0; exact DataW.trod_lt m _ _ _ hm
  obtain ⟨fuel0, hf0⟩ := h0
  obtain ⟨a0, fa0, fc0, va0, vc0, rfl, w0⟩ := ms_of hcs0 hf0
  obtain ⟨a1, rfl, rfl, rfl, w1⟩ := open_int Try.underlying3 (hval 1 3 v1 rfl rfl) h1
  clear hA0 hval0
  refine (walk a0 fa0 fc0 va0 vc0 a1 W w0 w1).mono fun e W' ⟨he, bel⟩ => ?_
  subst he
  exact ⟨_, rfl, _, _, _, [], _, [], hW', trodAll_mk1 (shut_bool Try.underlying4 _), (trodAll_cons_mk (Below.trod laidOut (by kernel_rfl) (of_decide_eq_true (by kernel_rfl)) k0 bel lt0) (trodAll_cons_mk (shut_int Try.underlying3 w1) trodAll_mk0)), rfl, bel.frame _, fun h => by cases h⟩

theorem over : Rows.msgKindsRow.holds Try.pinned (OpenSpec.ofChange Rows.msgKindsSpec) :=
  OpenClaim.holds_of_wide 5 Try.f5 rfl rfl rfl rfl rfl rfl rfl ⟨rfl, rfl, rfl, rfl, rfl⟩ rfl rfl rfl rfl rfl (by kernel_rfl) Try.func5 (by kernel_rfl)
    (of_decide_eq_true (by kernel_rfl)) (by unfold Func.isWrapper; first | (rw [if_pos (by decide +kernel)]; kernel_rfl) | (rw [if_neg (by decide +kernel)]; exact ⟨rfl, rfl⟩))
    (fun os started H enc _ => lifted os started H enc)

end Go.Proofs.Ytnikliadfcgjiaa.msgKinds

namespace Go.Proofs.Ytnikliadfcgjiaa
/-- Proved: for every message and int, MsgKinds answers true (what a kind doesn't have makes a message that is right none). -/
theorem msgKinds_holds : Rows.MsgKindsSaid := msgKinds.over
#print axioms msgKinds_holds
end Go.Proofs.Ytnikliadfcgjiaa
