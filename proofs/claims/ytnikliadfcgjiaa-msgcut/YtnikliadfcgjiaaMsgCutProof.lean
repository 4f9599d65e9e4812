/- Proved: for every message, int and byte, MsgCut answers true (bytes of a message that are cut off anywhere are no message's, and so are they with a byte more).
  The frame is the guide's own shell (proof-skeleton.mjs) at this function; the walk and all ahead of it are mine. -/
import Derived.Test.YtnikliadfcgjiaaRows
import Derived.Test.YtnikliadfcgjiaaAid
import Derived.Test.YtnikliadfcgjiaaCodeMath
import Derived.Test.YtnikliadfcgjiaaBagMath
import Derived.Test.YtnikliadfcgjiaaCut
import Derived.Test.YtnikliadfcgjiaaMsMath
import Derived.Test.YtnikliadfcgjiaaMsChk
import Derived.Test.YtnikliadfcgjiaaMsWr
import Derived.Test.YtnikliadfcgjiaaMsBy
import Derived.Test.YtnikliadfcgjiaaMsRd
import Derived.Test.YtnikliadfcgjiaaMsAwake
import Derived.Test.YtnikliadfcgjiaaMsAid
import Derived.Test.YtnikliadfcgjiaaMsCut
import Derived.Test.YtnikliadfcgjiaaMsRow
import Derived.Test.YtnikliadfcgjiaaMsLen
import Derived.Deep.CutBlock
import Derived.Deep.DeepCutAuto
import Derived.WalkKit
import Derived.WalkLawsBesides
import Derived.ProofKit
import Derived.OpenShut
import Derived.ShutString
import Derived.ChangeOld
import Derived.Below
namespace Go.Proofs.Ytnikliadfcgjiaa.msgCut
open Go.ChangeShapes Go.WideShapes Go.ChangeAt Go.RowKit
open Go.ChangeMaps (open_string shut_string)
set_option linter.unusedVariables false

theorem own : ownKnob Try.prog.godebug = none := by kernel_rfl
theorem laidOut : laidOutB Try.prog = true := by kernel_rfl


theorem app_list (s : ByteArray) (c : UInt8) : (s ++ (⟨#[c]⟩ : ByteArray)).data.toList = s.data.toList ++ [c] := by simp
theorem conv1 (W : World) (b : Nat) (c : UInt8) (hc : W.cell? ⟨b, 0, none⟩ = some (.int .u8 (c.toNat : Int))) :
    Sem.run Try.prog (convert 43 9 (.slice (some ⟨b, 0, none⟩) 1 1)) W = .ok (.string ⟨#[c]⟩) W := by
  exact run_convert_bytes_back (P := Try.prog) W 43 9 5 ⟨b, 0, none⟩ 1 [c] Try.underlying43 Try.underlying5 Try.underlying9 (fun j hj => by
    have : j = 0 := by simpa using hj
    subst this
    simpa [Addr.add] using hc)
/-! ### STEP 1: the walk -/
set_option maxRecDepth 100000 in
set_option maxHeartbeats 2000000 in
theorem walk (a0 : Mg) (fa0 : Option Addr) (fc0 : Nat) (va0 : Option Addr) (vc0 : Nat) (a1 : Int) (a2 : Int) (w : World) (w0 : MsOk w a0 fa0 va0) (w1 : (Lit.int .i64 a1).wf = true) (w2 : (Lit.int .u8 a2).wf = true) :
    Calls Try.prog 4 #[a0.val fa0 fc0 va0 vc0, .int .i64 a1, .int .u8 a2] w fun e w' => e = .returned (.bool true) ∧ Below w.heap.size w w' := by
  have hcut : ∀ W, Below w.heap.size w W → _ := fun W hb => cut15_any a0 fa0 fc0 va0 vc0 W (w0.fr.below (Nat.le_refl _) hb) (w0.vr.below (Nat.le_refl _) hb) w0.gs w0.ps
  have hsm : (cutM a0).group.size ≤ 9223372036854775807 := by have := cut_size a0.group 50; show (cut a0.group 50).size ≤ _; omega
  have hlen : ((cutM a0).fl.flatMap txtB).length + ((cutM a0).vl.flatMap vlB).length + (txtB (cutM a0).pay).length ≤ 700000 := cut_len a0 w0
  have hwf : (cutM a0).wf := cut_wf a0 w0
  generalize cutM a0 = c at hcut hsm hlen hwf
  obtain ⟨w1, hw1⟩ : ∃ W, W = w.alloc (.cells #[.int .i64 a0.kind, .string a0.group, .bool a0.any, .slice fa0 a0.fl.length fc0, .int .i64 a0.pub, .int .i64 a0.seq, .int .i64 a0.hops, .slice va0 a0.vl.length vc0, .string a0.pay] 27) := ⟨_, rfl⟩
  have b1 : Below w.heap.size w w1 := by rw [hw1]; exact below1 _ _
  have p1 : w1.heap[w.heap.size]? = some (.cells #[.int .i64 a0.kind, .string a0.group, .bool a0.any, .slice fa0 a0.fl.length fc0, .int .i64 a0.pub, .int .i64 a0.seq, .int .i64 a0.hops, .slice va0 a0.vl.length vc0, .string a0.pay] 27 (0, 0)) := by rw [hw1]; exact heap_alloc_new w _
  obtain ⟨x0, x1, x2, x3, x4, x5, x6, x7, x8⟩ := cells9 p1
  have xl := lt_of_block p1
  unfold Mg.val
  go_enter Try.func4, Try.ntmps4
  go_upto_region 1 with fail
  rw [← hw1]
  clear hw1
  go_wp2_with fail
  refine (hcut _ b1).mono ?_
  rintro e w2 ⟨fa, fc, va, vc, rfl, hf2, hv2, hnew, hb2⟩
  have p2 := (hb2.block _ xl).trans p1
  obtain ⟨y0, y1, y2, y3, y4, y5, y6, y7, y8⟩ := cells9 p2
  have yf := frozen9 p2
  have yl := lt_of_block p2
  obtain ⟨w3, hw3⟩ : ∃ W, W = sets9 w2 w.heap.size (.int .i64 c.kind) (.string c.group) (.bool c.any) (.slice fa c.fl.length fc) (.int .i64 c.pub) (.int .i64 c.seq) (.int .i64 c.hops) (.slice va c.vl.length vc) (.string c.pay) := ⟨_, rfl⟩
  have p3 : w3.heap[w.heap.size]? = _ := (congrArg (fun W : World => W.heap[w.heap.size]?) hw3).trans (sets9_box p2)
  have b3 : Below w.heap.size w w3 := by
    refine below_sets (b1.trans (hb2.mono b1.size)) (by rw [hw3, sets9_size]; exact Nat.le_refl _) ?_ ?_ ?_ (fun k hk => by rw [hw3]; exact sets9_other hk)
    · rw [hw3]; exact sets9_rest.1
    · rw [hw3]; exact sets9_rest.2.1
    · rw [hw3]; exact sets9_rest.2.2
  have H3 : (((((((((w2.setCell ⟨w.heap.size, 0, none⟩ (.int .i64 c.kind)).setCell ⟨w.heap.size, 1, none⟩ (.string c.group)).setCell ⟨w.heap.size, 2, none⟩ (.bool c.any)).setCell ⟨w.heap.size, 3, none⟩ (.slice fa c.fl.length fc)).setCell ⟨w.heap.size, 4, none⟩ (.int .i64 c.pub)).setCell ⟨w.heap.size, 5, none⟩ (.int .i64 c.seq)).setCell ⟨w.heap.size, 6, none⟩ (.int .i64 c.hops)).setCell ⟨w.heap.size, 7, none⟩ (.slice va c.vl.length vc)).setCell ⟨w.heap.size, 8, none⟩ (.string c.pay)) = w3 := hw3.symm
  have hf3 : InRow 1 encS okS ByteArray.empty w3 fa c.fl.length c.fl := InRow.mv (p := w.heap.size) ⟨hf2, fun x hx => by have := hnew.1 x hx; omega⟩ (by rw [hw3, sets9_size]; exact Nat.le_refl _) (fun k hk => by rw [hw3]; exact sets9_other hk)
  have hv3 : InRow 2 Vl.cells Vl.ok vl0 w3 va c.vl.length c.vl := InRow.mv (p := w.heap.size) ⟨hv2, fun x hx => by have := hnew.2 x hx; omega⟩ (by rw [hw3, sets9_size]; exact Nat.le_refl _) (fun k hk => by rw [hw3]; exact sets9_other hk)
  have hfl := hf2.2.1
  have hvl := hv2.2.1
  unfold Mg.val
  clear x0 x1 x2 x3 x4 x5 x6 x7 x8 xl p1 hcut
  have HH3 : Hid _ := H3
  clear H3 hw3
  go_upto_region 2 with fail
  rw [HH3.out]
  clear HH3 y0 y1 y2 y3 y4 y5 y6 y7 y8 yf yl p2
  obtain ⟨z0, z1, z2, z3, z4, z5, z6, z7, z8⟩ := cells9 p3
  have zl := lt_of_block p3
  have hby := mbytes_any c fa fc va vc w3 hf3 hv3 hsm hlen
  unfold Mg.val at hby
  obtain ⟨u0, u1⟩ := bounds_i64 ‹(Lit.int IntKind.i64 a1).wf = true›
  by_cases hc : (byR c).2 = 0
  · have hcc : chk c = 0 := by
      unfold byR at hc
      split at hc
      · assumption
      · rename_i h; exact absurd hc h
    have hl : (mB c).length ≤ 1970 := by
      unfold byR at hc
      rw [if_pos hcc] at hc
      split at hc
      · simp at hc
      · omega
    have hby0 : byR c = (⟨(mB c).toArray⟩, 0) := by unfold byR; rw [if_pos hcc, if_neg (by omega)]
    rw [hby0] at hby
    simp only [cdV0] at hby
    have hrd := rdM_back c [] hwf hcc hl
    rw [List.append_nil, if_neg (by omega), if_pos rfl] at hrd
    have hmore : ∀ x, x ≠ [] → (rdM (mB c ++ x)).2 ≠ 0 := fun x hx => rdM_more (mB c) x hx (by rw [hrd])
    have hless : ∀ k, k < (mB c).length → (rdM ((mB c).take k)).2 ≠ 0 := fun k hk h0 => by
      have := rdM_more ((mB c).take k) ((mB c).drop k) (by intro e; have := congrArg List.length e; simp at this; omega) h0
      rw [List.take_append_drop, hrd] at this
      exact this rfl
    have HX : Hid ((∀ x, x ≠ [] → (rdM (mB c ++ x)).2 ≠ 0) ∧ ∀ k, k < (mB c).length → (rdM ((mB c).take k)).2 ≠ 0) := ⟨hmore, hless⟩
    generalize mB c = L at *
    clear hmore hless hrd hby0 hcc hwf hlen hc
    obtain ⟨D, hD⟩ : ∃ D : ByteArray, D = ⟨L.toArray⟩ := ⟨_, rfl⟩
    have hDl : D.data.toList = L := by rw [hD]
    have hDs : D.size = L.length := by rw [hD]; exact ba_size L
    rw [← hD] at hby
    have HD : Hid (D.data.toList = L ∧ D.size = L.length) := ⟨hDl, hDs⟩
    have hDm : D.size ≤ 1970 := by omega
    clear hD hDl hDs hl
    go_wp2_with fail
    refine hby.mono ?_
    rintro e w4 ⟨rfl, hb4⟩
    have b4 := b3.trans (hb4.mono b3.size)
    by_cases hcut : 0 ≤ a1 ∧ a1 < (D.size : Int)
    · obtain ⟨hc0, hc1⟩ := hcut
      obtain ⟨k, hk⟩ : ∃ k : Nat, a1 = k := ⟨a1.toNat, by omega⟩
      subst hk
      have hkl : k < D.size := by omega
      have cr1 : ∀ W, _ := fun W => mread_any (D.extract 0 k) W (by simp; omega)
      have e1 : (D.extract 0 k).data.toList = L.take k := by
        have := ext_list D 0 k
        rw [Nat.zero_add] at this
        rw [this]; simp [HD.out.1]
      rw [e1] at cr1
      have hne1 := HX.out.2 k (by have := HD.out.2; omega)
      generalize rdM (L.take k) = r1 at cr1 hne1
      clear e1
      go_wp2_with fail
      refine (cr1 _).mono ?_
      rintro e w5 ⟨fa5, fc5, va5, vc5, ev5, rfl, hE5, _, _, hb5⟩
      obtain ⟨t5, y5, rfl⟩ := hE5.some hne1
      have b5 := b4.trans (hb5.mono b4.size)
      unfold Mg.val
      obtain ⟨c8, hc8⟩ : ∃ c8 : UInt8, a2 = (c8.toNat : Int) := by
        have := bounds_u8 ‹(Lit.int IntKind.u8 a2).wf = true›
        exact ⟨UInt8.ofNat a2.toNat, by rw [ofNat_toNat _ (by omega)]; omega⟩
      subst hc8
      have hcv : ∀ o : Obj, Sem.run Try.prog (convert 43 9 (.slice (some ⟨w5.heap.size + 1, 0, none⟩) 1 1)) ((w5.alloc o).alloc (.cells #[.int .u8 (c8.toNat : Int)] 5)) = .ok (.string ⟨#[c8]⟩) ((w5.alloc o).alloc (.cells #[.int .u8 (c8.toNat : Int)] 5)) := fun o => by
        refine conv1 _ _ c8 ?_
        have := heap_alloc_new (w5.alloc o) (.cells #[.int .u8 (c8.toNat : Int)] 5)
        simp at this
        simp [World.cell?, this]
      obtain ⟨D2, hD2⟩ : ∃ D2 : ByteArray, D2 = D ++ (⟨#[c8]⟩ : ByteArray) := ⟨_, rfl⟩
      have e2 : D2.data.toList = L ++ [c8] := by rw [hD2, app_list, HD.out.1]
      have s2 : D2.size ≤ 1971 := by
        have : D2.data.toList.length = L.length + 1 := by rw [e2]; simp
        have h3 : D2.data.toList.length = D2.size := by simp
        have := HD.out.2
        omega
      have cr2 : ∀ W, _ := fun W => mread_any D2 W (by omega)
      rw [e2] at cr2
      have hne2 := HX.out.1 [c8] (by simp)
      generalize rdM (L ++ [c8]) = r2 at cr2 hne2
      clear e2 s2
      go_wp2_with fail
      rw [← hD2]
      clear hD2
      refine (cr2 _).mono ?_
      rintro e w7 ⟨fa7, fc7, va7, vc7, ev7, rfl, hE7, _, _, hb7⟩
      obtain ⟨t7, y7, rfl⟩ := hE7.some hne2
      have b7 := ((b5.alloc b5.size _).alloc (by have := b5.size; simp; omega) _).trans (hb7.mono (by have := b5.size; simp; omega))
      unfold Mg.val
      go_wp2_with fail
      refine (awake15_any _).mono ?_
      rintro e w8 ⟨rfl, hb8⟩
      go_wp2
      go_ret
      exact ⟨rfl, (b7.alloc b7.size _).trans (hb8.mono (by have := b7.size; simp; omega))⟩
    · have hcase : a1 < 0 ∨ (¬ a1 < 0 ∧ (D.size : Int) ≤ a1) := by omega
      clear hcut
      rcases hcase with h1 | ⟨h1, h2⟩
      all_goals
        go_wp2_with fail
        refine (awake15_any _).mono ?_
        rintro e w6 ⟨rfl, hb6⟩
        go_wp2
        go_ret
        exact ⟨rfl, b4.trans (hb6.mono b4.size)⟩
  · rw [cdV_ne _ hc] at hby
    go_wp2_with fail
    refine hby.mono ?_
    rintro e w4 ⟨rfl, hb4⟩
    have b4 := b3.trans (hb4.mono b3.size)
    go_wp2_with fail
    refine (awake15_any _).mono ?_
    rintro e w6 ⟨rfl, hb6⟩
    go_wp2
    go_ret
    exact ⟨rfl, b4.trans (hb6.mono b4.size)⟩

/-! ### The row's step -/
set_option maxRecDepth 100000 in
theorem lifted (os : Os) (started : os.Started) (H : Type) (enc : TypeId × Value → H) :
    ReturnsInHanded {} Try.checked os 4 .any (Rows.msgCutSpec.pre6 enc Try.prog Try.f4 Rows.msgCutRow.domain false) (Rows.msgCutSpec.post enc Try.prog Try.f4 false true false false) := by
  refine returnsInHanded_of_change (C := Try.checked) own started (by kernel_rfl) Try.func4
    (ChangeSpec.witness6 (enc := enc) (C := Try.checked) false ⟨#[], #[.agg #[.int .i64 0, .string ByteArray.empty, .bool false, .slice none 0 0, .int .i64 0, .int .i64 0, .int .i64 0, .slice none 0 0, .string ByteArray.empty], .int .i64 0, .int .u8 0], []⟩ 8 (by kernel_rfl) (by kernel_rfl) (by kernel_rfl) (by kernel_rfl)) ?_
  intro W base args ds gs before hval0 hW hcnd _
  have hval : ∀ (j : Nat) t v, Try.f4.params[j]? = some t → args[j]? = some v → Value.okWide Try.prog W .any base t v := hval0
  have hW' := hW
  obtain ⟨p, q, hA0, hV, rfl, hfz, hnd⟩ := hW
  have hA : DataW.TrodAll enc Try.prog W 0 (fun _ => true) true Try.f4.params.toList args.toList ds p := hA0
  rw [Try.params4] at hA hval
  obtain ⟨v0, vs0, d0, ds0, p0, q0, hargs, rfl, rfl, h0, r0⟩ := trodAll_cons hA
  obtain ⟨v1, vs1, d1, ds1, p1, q1, rfl, rfl, rfl, h1, r1⟩ := trodAll_cons r0
  obtain ⟨v2, vs2, d2, ds2, p2, q2, rfl, rfl, rfl, h2, r2⟩ := trodAll_cons r1
  obtain ⟨rfl, rfl, rfl⟩ := trodAll_nil r2
  obtain rfl : args = #[v0, v1, v2] := by cases args; simp_all
  obtain ⟨rfl, rfl⟩ := trodVars_none hV
  obtain ⟨cs0, rfl, hcs0⟩ := okWide_struct Try.underlying27 (hval 0 27 v0 rfl rfl)
  have k0 := h0
  have lt0 : ∀ x ∈ p0, x.block < W.heap.size := by obtain ⟨m, hm⟩ := k0; exact DataW.trod_lt m _ _ _ hm
  obtain ⟨fuel0, hf0⟩ := h0
  obtain ⟨a0, fa0, fc0, va0, vc0, rfl, w0⟩ := ms_of hcs0 hf0
  obtain ⟨a1, rfl, rfl, rfl, w1⟩ := open_int Try.underlying3 (hval 1 3 v1 rfl rfl) h1
  obtain ⟨a2, rfl, rfl, rfl, w2⟩ := open_int Try.underlying5 (hval 2 5 v2 rfl rfl) h2
  clear hA0 hval0
  refine (walk a0 fa0 fc0 va0 vc0 a1 a2 W w0 w1 w2).mono fun e W' ⟨he, bel⟩ => ?_
  subst he
  exact ⟨_, rfl, _, _, _, [], _, [], hW', trodAll_mk1 (shut_bool Try.underlying4 _), (trodAll_cons_mk (Below.trod laidOut (by kernel_rfl) (of_decide_eq_true (by kernel_rfl)) k0 bel lt0) (trodAll_cons_mk (shut_int Try.underlying3 w1) (trodAll_cons_mk (shut_int Try.underlying5 w2) trodAll_mk0))), rfl, bel.frame _, fun h => by cases h⟩

theorem over : Rows.msgCutRow.holds Try.pinned (OpenSpec.ofChange Rows.msgCutSpec) :=
  OpenClaim.holds_of_wide 4 Try.f4 rfl rfl rfl rfl rfl rfl rfl ⟨rfl, rfl, rfl, rfl, rfl⟩ rfl rfl rfl rfl rfl (by kernel_rfl) Try.func4 (by kernel_rfl)
    (of_decide_eq_true (by kernel_rfl)) (by unfold Func.isWrapper; first | (rw [if_pos (by decide +kernel)]; kernel_rfl) | (rw [if_neg (by decide +kernel)]; exact ⟨rfl, rfl⟩))
    (fun os started H enc _ => lifted os started H enc)

end Go.Proofs.Ytnikliadfcgjiaa.msgCut

namespace Go.Proofs.Ytnikliadfcgjiaa
/-- Proved: for every message, int and byte, MsgCut answers true (bytes of a message that are cut off anywhere are no message's, and so are they with a byte more). -/
theorem msgCut_holds : Rows.MsgCutSaid := msgCut.over
#print axioms msgCut_holds
end Go.Proofs.Ytnikliadfcgjiaa
