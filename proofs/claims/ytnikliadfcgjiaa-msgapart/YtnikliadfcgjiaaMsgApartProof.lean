/- Proved: for every two texts and four ints, MsgApart answers true (unlike confirmations are unlike bytes, and a pruning is unlike both).
  The frame is the guide's own shell (proof-skeleton.mjs) at this function; the walk and all ahead of it are mine. -/
import Derived.Test.YtnikliadfcgjiaaRows
import Derived.Test.YtnikliadfcgjiaaAid
import Derived.Test.YtnikliadfcgjiaaCodeMath
import Derived.Test.YtnikliadfcgjiaaBagMath
import Derived.Test.YtnikliadfcgjiaaCut
import Derived.Test.YtnikliadfcgjiaaMsMath
import Derived.Test.YtnikliadfcgjiaaMsChk
import Derived.Test.YtnikliadfcgjiaaMsWr
import Derived.Test.YtnikliadfcgjiaaMsBy
import Derived.Test.YtnikliadfcgjiaaMsRd
import Derived.Test.YtnikliadfcgjiaaMsAwake
import Derived.Test.YtnikliadfcgjiaaMsAid
import Derived.Deep.CutBlock
import Derived.Deep.DeepCutAuto
import Derived.WalkKit
import Derived.WalkLawsBesides
import Derived.ProofKit
import Derived.OpenShut
import Derived.ShutString
namespace Go.Proofs.Ytnikliadfcgjiaa.msgApart
open Go.ChangeShapes Go.WideShapes Go.ChangeAt Go.RowKit
open Go.ChangeMaps (open_string shut_string)
set_option linter.unusedVariables false      -- a walk need not use every 'w<i>' (that an integer argument fits its kind)

theorem own : ownKnob Try.prog.godebug = none := by kernel_rfl


theorem mB_inj (x y : Mg) (hx : x.wf) (hy : y.wf) (cx : chk x = 0) (cy : chk y = 0) (lx : (mB x).length ≤ 1970) (ly : (mB y).length ≤ 1970) (h : mB x = mB y) : x = y := by
  have h1 := rdM_back x [] hx cx lx
  have h2 := rdM_back y [] hy cy ly
  simp only [List.append_nil, if_true] at h1 h2
  rw [if_neg (by omega)] at h1 h2
  rw [h, h2] at h1
  exact (Prod.mk.inj h1).1.symm
theorem cf_len (g : ByteArray) (p q : Int) (hg : g.size ≤ 40) (hp : i64 p) (hq : i64 q) : (mB (cf0 g p q)).length ≤ 1970 := by
  have h1 := numB_len10 (zig p) (zig_lt p hp.1 hp.2)
  have h2 := numB_len10 (zig q) (zig_lt q hq.1 hq.2)
  have h3 := numB_len10 g.size (by omega)
  have h4 := numB_len10 (zig 5) (by decide)
  have e : mB (cf0 g p q) = intB 5 ++ (txtB g ++ (intB p ++ (intB q ++ []))) := rfl
  rw [e]; unfold intB txtB; simp; omega
theorem pr_len (g : ByteArray) (hg : g.size ≤ 40) : (mB (pr0 g)).length ≤ 1970 := by
  have h3 := numB_len10 g.size (by omega)
  have h4 := numB_len10 (zig 2) (by decide)
  have e : mB (pr0 g) = intB 2 ++ (txtB g ++ []) := rfl
  rw [e]; unfold intB txtB; simp; omega
theorem pr_ok (g : ByteArray) (h1 : 1 ≤ g.size) (h2 : g.size ≤ 40) : chk (pr0 g) = 0 := by
  unfold chk pr0
  simp only
  rw [if_neg (by omega), if_neg (by simp)]
  simp [chkK, chkP, ByteArray.size]
theorem ba_l (l : List UInt8) : (⟨l.toArray⟩ : ByteArray).toList = l := by rw [ByteArray.toList_eq]
theorem ba_inj' {a b : ByteArray} (h : a.toList = b.toList) : a = b := by
  rw [ByteArray.toList_eq, ByteArray.toList_eq] at h
  cases a; cases b; simp_all
/-! ### STEP 1: THE WALK: the Go text returns true. 'Grown w w'': the world has at most new blocks (Derived/RowKit3.lean). Part the cases AHEAD of 'go_enter' where a test parts the walk; take each callee by a contract of your own. -/
set_option maxRecDepth 100000 in
set_option maxHeartbeats 2000000 in
theorem walk (a0 : ByteArray) (a1 : ByteArray) (a2 : Int) (a3 : Int) (a4 : Int) (a5 : Int) (w0 : a0.size ≤ maxLen) (w1 : a1.size ≤ maxLen) (w2 : (Lit.int .i64 a2).wf = true) (w3 : (Lit.int .i64 a3).wf = true) (w4 : (Lit.int .i64 a4).wf = true) (w5 : (Lit.int .i64 a5).wf = true) (w : World) :
    Calls Try.prog 6 #[.string a0, .string a1, .int .i64 a2, .int .i64 a3, .int .i64 a4, .int .i64 a5] w fun e w' => e = .returned (.bool true) ∧ Below w.heap.size w w' := by
  obtain ⟨p0, p1⟩ := bounds_i64 w2
  obtain ⟨q0, q1⟩ := bounds_i64 w3
  obtain ⟨m0, m1⟩ := bounds_i64 w4
  obtain ⟨n0, n1⟩ := bounds_i64 w5
  have ca := cut_any a0 40 w w0
  have cb : ∀ W, _ := fun W => cut_any a1 40 W w1
  have ga := cut_size a0 40
  have gb := cut_size a1 40
  generalize cut a0 40 = x at *
  generalize cut a1 40 = y at *
  have cx : ∀ W, _ := fun W => mbytes_any (cf0 x a2 a4) none 0 none 0 W in_nil in_nil (by show x.size ≤ _; omega) (by_len rfl rfl rfl)
  have cy : ∀ W, _ := fun W => mbytes_any (cf0 y a3 a5) none 0 none 0 W in_nil in_nil (by show y.size ≤ _; omega) (by_len rfl rfl rfl)
  have cz : ∀ W, _ := fun W => mbytes_any (pr0 x) none 0 none 0 W in_nil in_nil (by show x.size ≤ _; omega) (by_len rfl rfl rfl)
  have lx := cf_len x a2 a4 ga ⟨p0, p1⟩ ⟨m0, m1⟩
  have ly := cf_len y a3 a5 gb ⟨q0, q1⟩ ⟨n0, n1⟩
  have lz := pr_len x ga
  have HX : Hid (byR (cf0 x a2 a4) = if chk (cf0 x a2 a4) = 0 then (⟨(mB (cf0 x a2 a4)).toArray⟩, 0) else (ByteArray.empty, chk (cf0 x a2 a4))) := (by unfold byR; rw [if_neg (by omega : ¬ 1970 < (mB (cf0 x a2 a4)).length)] : byR (cf0 x a2 a4) = _)
  have HY : Hid (byR (cf0 y a3 a5) = if chk (cf0 y a3 a5) = 0 then (⟨(mB (cf0 y a3 a5)).toArray⟩, 0) else (ByteArray.empty, chk (cf0 y a3 a5))) := (by unfold byR; rw [if_neg (by omega : ¬ 1970 < (mB (cf0 y a3 a5)).length)] : byR (cf0 y a3 a5) = _)
  rw [HX.out] at cx
  rw [HY.out] at cy
  obtain ⟨W2, hW2⟩ : ∃ W2, W2 = (w.alloc (.cells #[.int .i64 5, .string x, .bool false, .slice none 0 0, .int .i64 a2, .int .i64 a4, .int .i64 0, .slice none 0 0, .string ⟨#[]⟩] 27)).alloc (.cells #[.int .i64 5, .string y, .bool false, .slice none 0 0, .int .i64 a3, .int .i64 a5, .int .i64 0, .slice none 0 0, .string ⟨#[]⟩] 27) := ⟨_, rfl⟩
  have bw : Below w.heap.size w W2 := by rw [hW2]; exact ((Below.refl _ _).alloc (Nat.le_refl _) _).alloc (by simp) _
  have bxx : W2.heap[w.heap.size]? = some (.cells #[.int .i64 5, .string x, .bool false, .slice none 0 0, .int .i64 a2, .int .i64 a4, .int .i64 0, .slice none 0 0, .string ⟨#[]⟩] 27 (0, 0)) := by rw [hW2, Below.heap_alloc _ _ _ (by simp)]; exact heap_alloc_new w _
  have bxy : W2.heap[w.heap.size + 1]? = some (.cells #[.int .i64 5, .string y, .bool false, .slice none 0 0, .int .i64 a3, .int .i64 a5, .int .i64 0, .slice none 0 0, .string ⟨#[]⟩] 27 (0, 0)) := by
    rw [hW2]; have := heap_alloc_new (w.alloc (.cells #[.int .i64 5, .string x, .bool false, .slice none 0 0, .int .i64 a2, .int .i64 a4, .int .i64 0, .slice none 0 0, .string ⟨#[]⟩] 27)) (.cells #[.int .i64 5, .string y, .bool false, .slice none 0 0, .int .i64 a3, .int .i64 a5, .int .i64 0, .slice none 0 0, .string ⟨#[]⟩] 27); simpa using this
  obtain ⟨x0, x1, x2, x3, x4, x5, x6, x7, x8⟩ := cells9 bxx
  obtain ⟨y0, y1, y2, y3, y4, y5, y6, y7, y8⟩ := cells9 bxy
  have lA := lt_of_block bxx
  have lB := lt_of_block bxy
  clear bxx bxy
  by_cases hx : chk (cf0 x a2 a4) = 0
  · rw [if_pos hx] at cx
    by_cases hy : chk (cf0 y a3 a5) = 0
    · rw [if_pos hy] at cy
      have gx := chk_group hx
      have hz := pr_ok x gx.1 gx.2
      have HZ : byR (pr0 x) = (⟨(mB (pr0 x)).toArray⟩, 0) := by unfold byR; rw [if_pos hz, if_neg (by omega)]
      rw [HZ] at cz
      have nw : ∀ g p q, (cf0 g p q).wf := fun g p q v hv => by cases hv
      have np : (pr0 x).wf := fun v hv => by cases hv
      have hne : ¬ mB (pr0 x) = mB (cf0 x a2 a4) := fun e => by
        have := congrArg Mg.kind (mB_inj _ _ np (nw _ _ _) hz hx lz lx e)
        simp [pr0, cf0] at this
      have hiff : mB (cf0 x a2 a4) = mB (cf0 y a3 a5) ↔ (x = y ∧ a2 = a3 ∧ a4 = a5) := by
        constructor
        · intro e
          have := mB_inj _ _ (nw _ _ _) (nw _ _ _) hx hy lx ly e
          simp only [cf0, Mg.mk.injEq, true_and, and_true] at this
          exact this
        · rintro ⟨rfl, rfl, rfl⟩; rfl
      have hxy : x = y ↔ x.toList = y.toList := ⟨fun e => by rw [e], ba_inj'⟩
      rw [hxy] at hiff
      have HF : Hid (¬ mB (pr0 x) = mB (cf0 x a2 a4) ∧ (mB (cf0 x a2 a4) = mB (cf0 y a3 a5) ↔ (x.toList = y.toList ∧ a2 = a3 ∧ a4 = a5))) := ⟨hne, hiff⟩
      clear hxy
      clear HX HY HZ hne hiff nw np
      generalize hLx : mB (cf0 x a2 a4) = Lx at *
      generalize hLy : mB (cf0 y a3 a5) = Ly at *
      generalize hLz : mB (pr0 x) = Lz at *
      clear hLx hLy hLz lx ly lz hx hy hz gx
      simp only [cdV0] at cx cy cz
      go_enter Try.func6, Try.ntmps6
      go_wp2_with fail
      refine ca.mono ?_
      rintro e w' ⟨rfl, hw'⟩
      subst w'
      go_wp2_with fail
      refine (cb _).mono ?_
      rintro e w' ⟨rfl, hw'⟩
      subst w'
      go_upto_region 3 with fail
      rw [← hW2]
      clear hW2
      go_wp2_with fail
      refine (cx _).mono ?_
      rintro e w1' ⟨rfl, hb1⟩
      have e1 := below_cells hb1
      have hs1 := hb1.size
      have lA1 : w.heap.size < w1'.heap.size := by omega
      have lB1 : w.heap.size + 1 < w1'.heap.size := by omega
      go_wp2_with fail
      refine (cy _).mono ?_
      rintro e w2' ⟨rfl, hb2⟩
      have e2 := below_cells hb2
      have hs2 := hb2.size
      have lA2 : w.heap.size < w2'.heap.size := by omega
      have lB2 : w.heap.size + 1 < w2'.heap.size := by omega
      have bb := bw.trans ((hb1.mono (by omega)).trans (hb2.mono (by omega)))
      go_wp2_with fail
      refine (cz _).mono ?_
      rintro e w3' ⟨rfl, hb3⟩
      have e3 := below_cells hb3
      have hs3 := hb3.size
      have lA3 : w.heap.size < w3'.heap.size := by omega
      have lB3 : w.heap.size + 1 < w3'.heap.size := by omega
      have bb3 := bb.trans (hb3.mono (by omega))
      go_wp2_with fail
      refine (awake15_any _).mono ?_
      rintro e w4' ⟨rfl, hb4⟩
      have e4 := below_cells hb4
      have bb4 := bb3.trans (hb4.mono (by omega))
      clear hs1 hs2 hs3
      go_wp2
      all_goals
        go_ret
        refine ⟨ret_b ?_, bb4⟩
        obtain ⟨f1, f2⟩ := HF.out
        first
          | (simp_all; done)
          | (simp_all; rw [Bool.eq_iff_iff, beq_iff_eq, beq_iff_eq]; exact f2)
    · rw [if_neg hy] at cy
      simp only [cdV0, cdV_ne _ hy] at cx cy
      clear HX HY cz lx ly lz
      go_enter Try.func6, Try.ntmps6
      go_wp2_with fail
      refine ca.mono ?_
      rintro e w' ⟨rfl, hw'⟩
      subst w'
      go_wp2_with fail
      refine (cb _).mono ?_
      rintro e w' ⟨rfl, hw'⟩
      subst w'
      go_upto_region 3 with fail
      rw [← hW2]
      clear hW2
      go_wp2_with fail
      refine (cx _).mono ?_
      rintro e w1' ⟨rfl, hb1⟩
      have e1 := below_cells hb1
      have hs1 := hb1.size
      have lA1 : w.heap.size < w1'.heap.size := by omega
      have lB1 : w.heap.size + 1 < w1'.heap.size := by omega
      go_wp2_with fail
      refine (cy _).mono ?_
      rintro e w2' ⟨rfl, hb2⟩
      have hs2 := hb2.size
      have bb := bw.trans ((hb1.mono (by omega)).trans (hb2.mono (by omega)))
      go_wp2_with fail
      refine (awake15_any _).mono ?_
      rintro e w4' ⟨rfl, hb4⟩
      have bb4 := bb.trans (hb4.mono (by omega))
      go_wp2
      go_ret
      exact ⟨rfl, bb4⟩
  · rw [if_neg hx] at cx
    have hcy : ∃ s v, ∀ W, Calls Try.prog 8 #[(cf0 y a3 a5).val none 0 none 0] W fun e w' => e = .returned (.tuple #[.string s, v]) ∧ Below W.heap.size W w' := ⟨_, _, cy⟩
    obtain ⟨sy, vy, cy'⟩ := hcy
    simp only [cdV_ne _ hx] at cx
    clear cy HX HY cz lx ly lz
    have cy := cy'
    clear cy'
    go_enter Try.func6, Try.ntmps6
    go_wp2_with fail
    refine ca.mono ?_
    rintro e w' ⟨rfl, hw'⟩
    subst w'
    go_wp2_with fail
    refine (cb _).mono ?_
    rintro e w' ⟨rfl, hw'⟩
    subst w'
    go_upto_region 3 with fail
    rw [← hW2]
    clear hW2
    go_wp2_with fail
    refine (cx _).mono ?_
    rintro e w1' ⟨rfl, hb1⟩
    have e1 := below_cells hb1
    have hs1 := hb1.size
    have lA1 : w.heap.size < w1'.heap.size := by omega
    have lB1 : w.heap.size + 1 < w1'.heap.size := by omega
    go_wp2_with fail
    refine (cy _).mono ?_
    rintro e w2' ⟨rfl, hb2⟩
    have hs2 := hb2.size
    have bb := bw.trans ((hb1.mono (by omega)).trans (hb2.mono (by omega)))
    go_wp2_with fail
    refine (awake15_any _).mono ?_
    rintro e w4' ⟨rfl, hb4⟩
    have bb4 := bb.trans (hb4.mono (by omega))
    go_wp2
    go_ret
    exact ⟨rfl, bb4⟩

/-! ### THE ROW's STEP: WRITTEN OUT: LEAVE IT -/
set_option maxRecDepth 100000 in
theorem lifted (os : Os) (started : os.Started) (H : Type) (enc : TypeId × Value → H) :
    ReturnsInHanded {} Try.checked os 6 .any (Rows.msgApartSpec.pre6 enc Try.prog Try.f6 Rows.msgApartRow.domain false) (Rows.msgApartSpec.post enc Try.prog Try.f6 false true false false) := by
  refine returnsInHanded_of_change (C := Try.checked) own started (by kernel_rfl) Try.func6
    (ChangeSpec.witness6 (enc := enc) (C := Try.checked) false ⟨#[], #[.string ByteArray.empty, .string ByteArray.empty, .int .i64 0, .int .i64 0, .int .i64 0, .int .i64 0], []⟩ 8 (by kernel_rfl) (by kernel_rfl) (by kernel_rfl) (by kernel_rfl)) ?_
  intro W base args ds gs before hval0 hW hcnd _
  have hval : ∀ (j : Nat) t v, Try.f6.params[j]? = some t → args[j]? = some v → Value.okWide Try.prog W .any base t v := hval0
  have hW' := hW
  obtain ⟨p, q, hA0, hV, rfl, hfz, hnd⟩ := hW
  have hA : DataW.TrodAll enc Try.prog W 0 (fun _ => true) true Try.f6.params.toList args.toList ds p := hA0
  rw [Try.params6] at hA hval
  obtain ⟨v0, vs0, d0, ds0, p0, q0, hargs, rfl, rfl, h0, r0⟩ := trodAll_cons hA
  obtain ⟨v1, vs1, d1, ds1, p1, q1, rfl, rfl, rfl, h1, r1⟩ := trodAll_cons r0
  obtain ⟨v2, vs2, d2, ds2, p2, q2, rfl, rfl, rfl, h2, r2⟩ := trodAll_cons r1
  obtain ⟨v3, vs3, d3, ds3, p3, q3, rfl, rfl, rfl, h3, r3⟩ := trodAll_cons r2
  obtain ⟨v4, vs4, d4, ds4, p4, q4, rfl, rfl, rfl, h4, r4⟩ := trodAll_cons r3
  obtain ⟨v5, vs5, d5, ds5, p5, q5, rfl, rfl, rfl, h5, r5⟩ := trodAll_cons r4
  obtain ⟨rfl, rfl, rfl⟩ := trodAll_nil r5
  obtain rfl : args = #[v0, v1, v2, v3, v4, v5] := by cases args; simp_all
  obtain ⟨rfl, rfl⟩ := trodVars_none hV
  obtain ⟨a0, rfl, rfl, rfl, w0⟩ := open_string Try.underlying9 (hval 0 9 v0 rfl rfl) h0
  obtain ⟨a1, rfl, rfl, rfl, w1⟩ := open_string Try.underlying9 (hval 1 9 v1 rfl rfl) h1
  obtain ⟨a2, rfl, rfl, rfl, w2⟩ := open_int Try.underlying3 (hval 2 3 v2 rfl rfl) h2
  obtain ⟨a3, rfl, rfl, rfl, w3⟩ := open_int Try.underlying3 (hval 3 3 v3 rfl rfl) h3
  obtain ⟨a4, rfl, rfl, rfl, w4⟩ := open_int Try.underlying3 (hval 4 3 v4 rfl rfl) h4
  obtain ⟨a5, rfl, rfl, rfl, w5⟩ := open_int Try.underlying3 (hval 5 3 v5 rfl rfl) h5
  clear hA0 hval0
  simp only [List.append_nil] at hW'
  refine (walk a0 a1 a2 a3 a4 a5 w0 w1 w2 w3 w4 w5 W).mono fun e W' ⟨he, bel⟩ => ?_
  subst he
  exact ⟨_, rfl, _, _, _, [], [], [], hW', trodAll_mk1 (shut_bool Try.underlying4 _), (trodAll_cons_mk (shut_string Try.underlying9 w0) (trodAll_cons_mk (shut_string Try.underlying9 w1) (trodAll_cons_mk (shut_int Try.underlying3 w2) (trodAll_cons_mk (shut_int Try.underlying3 w3) (trodAll_cons_mk (shut_int Try.underlying3 w4) (trodAll_cons_mk (shut_int Try.underlying3 w5) trodAll_mk0)))))), rfl, bel.frame _, fun h => by cases h⟩

theorem over : Rows.msgApartRow.holds Try.pinned (OpenSpec.ofChange Rows.msgApartSpec) :=
  OpenClaim.holds_of_wide 6 Try.f6 rfl rfl rfl rfl rfl rfl rfl ⟨rfl, rfl, rfl, rfl, rfl⟩ rfl rfl rfl rfl rfl (by kernel_rfl) Try.func6 (by kernel_rfl)
    (of_decide_eq_true (by kernel_rfl)) (by unfold Func.isWrapper; first | (rw [if_pos (by decide +kernel)]; kernel_rfl) | (rw [if_neg (by decide +kernel)]; exact ⟨rfl, rfl⟩))
    (fun os started H enc _ => lifted os started H enc)

end Go.Proofs.Ytnikliadfcgjiaa.msgApart

namespace Go.Proofs.Ytnikliadfcgjiaa
/-- Proved: for every two texts and four ints, MsgApart answers true (unlike confirmations are unlike bytes, and a pruning is unlike both). -/
theorem msgApart_holds : Rows.MsgApartSaid := msgApart.over
#print axioms msgApart_holds
end Go.Proofs.Ytnikliadfcgjiaa
