/- Proved: for every message, MsgWrites answers true (messages are checked and written as the document has it).
  The frame is the guide's own shell (proof-skeleton.mjs) at this function; the walk and all ahead of it are mine. -/
import Derived.Test.YtnikliadfcgjiaaDoorRows
import Derived.Test.YtnikliadfcgjiaaDoorAid
import Derived.Test.YtnikliadfcgjiaaDoorCodeMath
import Derived.Test.YtnikliadfcgjiaaDoorBagMath
import Derived.Test.YtnikliadfcgjiaaDoorCut
import Derived.Test.YtnikliadfcgjiaaDoorMsMath
import Derived.Test.YtnikliadfcgjiaaDoorMsChk
import Derived.Test.YtnikliadfcgjiaaDoorMsWr
import Derived.Test.YtnikliadfcgjiaaDoorMsBy
import Derived.Test.YtnikliadfcgjiaaDoorMsRd
import Derived.Test.YtnikliadfcgjiaaDoorMsAwake
import Derived.Test.YtnikliadfcgjiaaDoorMsAid
import Derived.Test.YtnikliadfcgjiaaDoorMsCut
import Derived.Test.YtnikliadfcgjiaaDoorMsRow
import Derived.Test.YtnikliadfcgjiaaDoorMsLen
import Derived.Test.YtnikliadfcgjiaaDoorMsSame
import Derived.Test.YtnikliadfcgjiaaDoorJoinThings
import Derived.Deep.CutBlock
import Derived.Deep.DeepCutAuto
import Derived.Deep.RegionHeld3
import Derived.WalkKit
import Derived.WalkLawsBesides
import Derived.ProofKit
import Derived.OpenShut
import Derived.ChangeSame
import Derived.ChangeVars
import Derived.JoinedOf
import Derived.RowKit
import Derived.RowKitTokens
import Derived.LaidLaws
import Derived.LaidHandle
import Derived.Stop.Joined
import Derived.SevenTiedAt
import Derived.Test.YtnikliadfcgjiaaDoorTie
import Derived.Test.YtnikliadfcgjiaaDoorCards
import Derived.ShutString
import Derived.ChangeOld
import Derived.Below
namespace Go.Proofs.YtnikliadfcgjiaaDoor.msgWrites
open Go.ChangeShapes Go.WideShapes Go.ChangeAt Go.RowKit
open Go.ChangeMaps (open_string shut_string)
set_option linter.unusedVariables false

theorem own : ownKnob Tryd.prog.godebug = none := by kernel_rfl
theorem laidOut : laidOutB Tryd.prog = true := by kernel_rfl


theorem cut_idem (s : ByteArray) (n : Nat) (h : s.size ≤ n) : cut s n = s := by unfold cut; rw [if_neg (by omega)]
theorem tol_cut (m : Mg) : tolM (cutM m) = cutM m := by
  unfold tolM
  have : ((cutM m).vl.take 6).map cutV = (cutM m).vl := by
    show (((m.vl.take 6).map cutV).take 6).map cutV = (m.vl.take 6).map cutV
    rw [List.take_of_length_le (by simp; omega), List.map_map]
    apply List.map_congr_left
    intro v _
    show (⟨v.num, cut (cut v.str 50) 50⟩ : Vl) = ⟨v.num, cut v.str 50⟩
    rw [cut_idem _ _ (cut_size _ _)]
  rw [this]
theorem et : Tryd.prog.globalNamed "errors.errorType" = some 0 := by kernel_rfl
theorem rt : (Tryd.prog.cutTypes.find? (·.1 == "internal/reflectlite.rtype")).map (·.2) = some 112 := by kernel_rfl
theorem oneRow : ((List.range 155).filter fun t => Tryd.prog.rowNamed t [101, 114, 114, 111, 114]) = [30] := by kernel_rfl
theorem typesSize : Tryd.prog.types.size = 155 := by kernel_rfl
/-- What the tied variable gives a walk: its one cell. -/
theorem handle_of_laid {W : World} (h : laidMetH Tryd.prog Rows.msgWritesRow.laid W) : ErrType W := by
  have h' : laidMet Tryd.prog [] W ∧ handlesMet Tryd.prog Rows.msgWritesRow.laid W := h
  obtain ⟨name, u, ty, e1, e2, e3, e4, e5⟩ := h'.2 _ (List.mem_singleton.2 rfl)
  have en : name = [101, 114, 114, 111, 114] := (Option.some.inj e1).symm
  subst en
  obtain rfl := Option.some.inj (rt.symm.trans e2)
  have hm : ty ∈ (List.range 155).filter fun t => Tryd.prog.rowNamed t [101, 114, 114, 111, 114] := List.mem_filter.2 ⟨List.mem_range.2 (by rw [← typesSize]; exact e3), e4⟩
  rw [oneRow] at hm
  obtain rfl := List.mem_singleton.1 hm
  have hh : typeHandle Tryd.prog 30 = .pointer (some ⟨1, 30, none⟩) := by kernel_rfl
  rw [hh] at e5
  unfold ErrType
  simpa using World.var?_cell et e5 0

/-! ### STEP 1: the walk -/
set_option maxRecDepth 100000 in
set_option maxHeartbeats 2000000 in
theorem walk (a0 : Mg) (fa0 : Option Addr) (fc0 : Nat) (va0 : Option Addr) (vc0 : Nat) (w : World) (hE : ErrType w) (w0 : MsOk w a0 fa0 va0) :
    Calls Tryd.prog 3 #[a0.val fa0 fc0 va0 vc0] w fun e w' => e = .returned (.bool true) ∧ Below w.heap.size w w' := by
  have hcut : ∀ W, Below w.heap.size w W → _ := fun W hb => cut15_any a0 fa0 fc0 va0 vc0 W (w0.fr.below (Nat.le_refl _) hb) (w0.vr.below (Nat.le_refl _) hb) w0.gs w0.ps
  have hsm : (cutM a0).group.size ≤ 9223372036854775807 := by have := cut_size a0.group 50; show (cut a0.group 50).size ≤ _; omega
  have htol : tolM (cutM a0) = cutM a0 := tol_cut a0
  have hpay : (cutM a0).pay.size ≤ maxLen := by have := cut_size a0.pay 2100; show (cut a0.pay 2100).size ≤ _; unfold maxLen; omega
  have hlen : ((cutM a0).fl.flatMap txtB).length + ((cutM a0).vl.flatMap vlB).length + (txtB (cutM a0).pay).length ≤ 700000 := cut_len a0 w0
  have hwf : (cutM a0).wf := cut_wf a0 w0
  generalize cutM a0 = c at hcut hsm hlen hwf htol hpay
  obtain ⟨w1, hw1⟩ : ∃ W, W = w.alloc (.cells #[.int .i64 a0.kind, .string a0.group, .bool a0.any, .slice fa0 a0.fl.length fc0, .int .i64 a0.pub, .int .i64 a0.seq, .int .i64 a0.hops, .slice va0 a0.vl.length vc0, .string a0.pay] 27) := ⟨_, rfl⟩
  have b1 : Below w.heap.size w w1 := by rw [hw1]; exact below1 _ _
  have p1 : w1.heap[w.heap.size]? = some (.cells #[.int .i64 a0.kind, .string a0.group, .bool a0.any, .slice fa0 a0.fl.length fc0, .int .i64 a0.pub, .int .i64 a0.seq, .int .i64 a0.hops, .slice va0 a0.vl.length vc0, .string a0.pay] 27 (0, 0)) := by rw [hw1]; exact heap_alloc_new w _
  obtain ⟨x0, x1, x2, x3, x4, x5, x6, x7, x8⟩ := cells9 p1
  have xl := lt_of_block p1
  unfold Mg.val
  go_enter Tryd.func3, Tryd.ntmps3
  go_upto_region 1 with fail
  rw [← hw1]
  clear hw1
  go_wp2_with fail
  refine (hcut _ b1).mono ?_
  rintro e w2 ⟨fa, fc, va, vc, rfl, hf2, hv2, hnew, hb2⟩
  have p2 := (hb2.block _ xl).trans p1
  obtain ⟨y0, y1, y2, y3, y4, y5, y6, y7, y8⟩ := cells9 p2
  have yf := frozen9 p2
  have yl := lt_of_block p2
  obtain ⟨w3, hw3⟩ : ∃ W, W = sets9 w2 w.heap.size (.int .i64 c.kind) (.string c.group) (.bool c.any) (.slice fa c.fl.length fc) (.int .i64 c.pub) (.int .i64 c.seq) (.int .i64 c.hops) (.slice va c.vl.length vc) (.string c.pay) := ⟨_, rfl⟩
  have p3 : w3.heap[w.heap.size]? = _ := (congrArg (fun W : World => W.heap[w.heap.size]?) hw3).trans (sets9_box p2)
  have b3 : Below w.heap.size w w3 := by
    refine below_sets (b1.trans (hb2.mono b1.size)) (by rw [hw3, sets9_size]; exact Nat.le_refl _) ?_ ?_ ?_ (fun k hk => by rw [hw3]; exact sets9_other hk)
    · rw [hw3]; exact sets9_rest.1
    · rw [hw3]; exact sets9_rest.2.1
    · rw [hw3]; exact sets9_rest.2.2
  have H3 : (((((((((w2.setCell ⟨w.heap.size, 0, none⟩ (.int .i64 c.kind)).setCell ⟨w.heap.size, 1, none⟩ (.string c.group)).setCell ⟨w.heap.size, 2, none⟩ (.bool c.any)).setCell ⟨w.heap.size, 3, none⟩ (.slice fa c.fl.length fc)).setCell ⟨w.heap.size, 4, none⟩ (.int .i64 c.pub)).setCell ⟨w.heap.size, 5, none⟩ (.int .i64 c.seq)).setCell ⟨w.heap.size, 6, none⟩ (.int .i64 c.hops)).setCell ⟨w.heap.size, 7, none⟩ (.slice va c.vl.length vc)).setCell ⟨w.heap.size, 8, none⟩ (.string c.pay)) = w3 := hw3.symm
  have hf3 : InRow 1 encS okS ByteArray.empty w3 fa c.fl.length c.fl := InRow.mv (p := w.heap.size) ⟨hf2, fun x hx => by have := hnew.1 x hx; omega⟩ (by rw [hw3, sets9_size]; exact Nat.le_refl _) (fun k hk => by rw [hw3]; exact sets9_other hk)
  have hv3 : InRow 2 Vl.cells Vl.ok vl0 w3 va c.vl.length c.vl := InRow.mv (p := w.heap.size) ⟨hv2, fun x hx => by have := hnew.2 x hx; omega⟩ (by rw [hw3, sets9_size]; exact Nat.le_refl _) (fun k hk => by rw [hw3]; exact sets9_other hk)
  have hfl := hf2.2.1
  have hvl := hv2.2.1
  unfold Mg.val
  clear x0 x1 x2 x3 x4 x5 x6 x7 x8 xl p1 hcut
  have HH3 : Hid _ := H3
  clear H3 hw3
  go_upto_region 2 with fail
  rw [HH3.out]
  clear HH3 y0 y1 y2 y3 y4 y5 y6 y7 y8 yf yl p2
  obtain ⟨z0, z1, z2, z3, z4, z5, z6, z7, z8⟩ := cells9 p3
  have zl := lt_of_block p3
  have hby := mbytes_any c fa fc va vc w3 hf3 hv3 hsm hlen
  unfold Mg.val at hby
  have HTP : Hid (tolM c = c ∧ c.pay.size ≤ maxLen) := ⟨htol, hpay⟩
  clear htol hpay
  have cto : ∀ W, Below w3.heap.size w3 W → _ := fun W hW => told15 c fa fc va vc W (hv3.below (Nat.le_refl _) hW) HTP.out.2
  rw [HTP.out.1] at cto
  have crb : ∀ W va' vc', Below w3.heap.size w3 W → InRow 2 Vl.cells Vl.ok vl0 W va' c.vl.length c.vl → _ := fun W va' vc' hW hI => rmbytes_any c fa fc va' vc' W (hf3.below (Nat.le_refl _) hW) hI hsm hlen
  have cck : ∀ W, _ := fun W => mcheck_any c fa fc va vc W hsm hvl hfl
  have crc : ∀ W va' vc', _ := fun W va' vc' => rcheck_any c fa fc va' vc' W hsm (by have := txt_len c.pay; omega) hvl hfl
  unfold Mg.val at cto crb cck crc
  have hE0 := hE.lt
  go_wp2_with fail
  refine hby.mono ?_
  rintro e w4 ⟨rfl, hb4⟩
  have p4 := (hb4.block _ zl).trans p3
  obtain ⟨y0, y1, y2, y3, y4, y5, y6, y7, y8⟩ := cells9 p4
  have yl := lt_of_block p4
  have b4 := b3.trans (hb4.mono b3.size)
  go_wp2_with fail
  refine (cto _ hb4).mono ?_
  rintro e w5 ⟨va5, vc5, rfl, hI5, hb5⟩
  have b45 := hb4.trans (hb5.mono hb4.size)
  go_wp2_with fail
  refine (crb _ va5 vc5 b45 hI5).mono ?_
  rintro e W5 ⟨rfl, hb6⟩
  have b35 : Below w3.heap.size w3 W5 := b45.trans (hb6.mono b45.size)
  have bW : Below w.heap.size w W5 := b3.trans (b35.mono b3.size)
  have p5 := (b35.block _ zl).trans p3
  have HE5 : Hid (ErrType W5) := hE.below hE0 (bW.mono (Nat.le_refl _))
  have hE0' : 0 < W5.heap.size := by have := bW.size; omega
  have zl5 := lt_of_block p5
  obtain ⟨u0, u1, u2, u3, u4, u5, u6, u7, u8⟩ := cells9 p5
  have cto5 : ∀ W, Below W5.heap.size W5 W → _ := fun W hW => cto W (b35.trans (hW.mono b35.size))
  generalize hby1 : (byR c).1 = t1 at *
  clear y0 y1 y2 y3 y4 y5 y6 y7 y8 yl p4 b4 b45 hb4 hb5 hb6 hI5 hby crb z0 z1 z2 z3 z4 z5 z6 z7 z8 hf3 hv3 cto
  go_upto_region 4 with fail
  go_region_held3 (fun w' => w'.cell? ⟨w.heap.size, 0, none⟩ = some (.int .i64 c.kind) ∧ w'.cell? ⟨w.heap.size, 1, none⟩ = some (.string c.group) ∧ w'.cell? ⟨w.heap.size, 2, none⟩ = some (.bool c.any) ∧ w'.cell? ⟨w.heap.size, 3, none⟩ = some (.slice fa c.fl.length fc) ∧ w'.cell? ⟨w.heap.size, 4, none⟩ = some (.int .i64 c.pub) ∧ w'.cell? ⟨w.heap.size, 5, none⟩ = some (.int .i64 c.seq) ∧ w'.cell? ⟨w.heap.size, 6, none⟩ = some (.int .i64 c.hops) ∧ w'.cell? ⟨w.heap.size, 7, none⟩ = some (.slice va c.vl.length vc) ∧ w'.cell? ⟨w.heap.size, 8, none⟩ = some (.string c.pay))
    (first
      | go_keep
      | assumption)
    (first
        | (have hguard := B5; clear hguard; go_at_call 10; refine Calls.mono (of_cd (byR c).2 v5 (HE5.out.below hE0' B5)) ?_; rintro e v6 ⟨rfl, hb6⟩
           have B6 : Below W5.heap.size W5 v6 := B5.trans (hb6.mono B5.size)
           obtain ⟨v60, v61, v62, v63, v64, v65, v66, v67, v68⟩ := cells9 ((B6.block _ zl5).trans p5)
           clear hb6)
        | (go_at_call 12; refine Calls.mono (crc v4 va4 vc4) ?_; rintro e v5 ⟨rfl, hb5⟩
           have B5 : Below W5.heap.size W5 v5 := B4.trans (hb5.mono B4.size)
           obtain ⟨v50, v51, v52, v53, v54, v55, v56, v57, v58⟩ := cells9 ((B5.block _ zl5).trans p5)
           clear hb5)
        | (go_at_call 8; refine Calls.mono (cto5 v3 B3) ?_; rintro e v4 ⟨va4, vc4, rfl, _, hb4⟩
           have B4 : Below W5.heap.size W5 v4 := B3.trans (hb4.mono B3.size)
           obtain ⟨v40, v41, v42, v43, v44, v45, v46, v47, v48⟩ := cells9 ((B4.block _ zl5).trans p5)
           clear hb4)
        | (go_at_call 10; refine Calls.mono (of_cd (chk c) v2 (HE5.out.below hE0' B2)) ?_; rintro e v3 ⟨rfl, hb3⟩
           have B3 : Below W5.heap.size W5 v3 := B2.trans (hb3.mono B2.size)
           obtain ⟨v30, v31, v32, v33, v34, v35, v36, v37, v38⟩ := cells9 ((B3.block _ zl5).trans p5)
           clear hb3)
        | (go_at_call 11; refine Calls.mono (cck v1) ?_; rintro e v2 ⟨rfl, hb2⟩
           have B2 : Below W5.heap.size W5 v2 := B1.trans (hb2.mono B1.size)
           obtain ⟨v20, v21, v22, v23, v24, v25, v26, v27, v28⟩ := cells9 ((B2.block _ zl5).trans p5)
           clear hb2)
        | (go_at_call 9; refine Calls.mono (awake15_any _) ?_; rintro e v1 ⟨rfl, hb1⟩
           have B1 : Below W5.heap.size W5 v1 := ⟨hb1.os, hb1.tape, hb1.output, hb1.size, hb1.block⟩
           obtain ⟨v10, v11, v12, v13, v14, v15, v16, v17, v18⟩ := cells9 ((B1.block _ zl5).trans p5)
           clear hb1))
  all_goals
    go_wp2
    go_ret
    exact ⟨ret_b (by simp), bW.trans (B6.mono bW.size)⟩

/-! ### The row's step -/
set_option maxRecDepth 100000 in
theorem lifted (os : Os) (started : os.Started) (H : Type) (enc : TypeId × Value → H) :
    ReturnsInHanded {} Tryd.checked os 3 .any (fun w args => (Rows.msgWritesSpec.pre enc Tryd.prog Tryd.f3 [] false w args ∧ laidMetH Tryd.prog Rows.msgWritesRow.laid w) ∧ sizedMet enc Tryd.prog Tryd.f3 (OpenSpec.ofChange Rows.msgWritesSpec) false w args) (Rows.msgWritesSpec.post enc Tryd.prog Tryd.f3 false true false false) := by
  refine returnsInHanded_of_change_and (C := Tryd.checked) (X := fun w _ => laidMetH Tryd.prog Rows.msgWritesRow.laid w) (fun _ _ _ hh h => h.of_heap hh) own started (by kernel_rfl) Tryd.func3
    (ChangeSpec.witness_at (enc := enc) (C := Tryd.checked) (os := os) (X := fun w _ => laidMetH Tryd.prog Rows.msgWritesRow.laid w) false ({ World.holding Tryd.prog os ⟨#[], #[], []⟩ with heap := (World.holding Tryd.prog os ⟨#[], #[], []⟩).heap.modify 0 fun | .cells _ t frozen => .cells #[.iface 112 (.agg #[.pointer (some ⟨1, 30, none⟩)])] t frozen | o => o }) #[.agg #[.int .i64 0, .string ByteArray.empty, .bool false, .slice none 0 0, .int .i64 0, .int .i64 0, .int .i64 0, .slice none 0 0, .string ByteArray.empty]] 8 rfl (by kernel_rfl) (by kernel_rfl) (by kernel_rfl) (by kernel_rfl) (by kernel_rfl) (laidMetH_of_parts (laidMet_nil _ _) (by kernel_rfl))) ?_
  intro W base args ds gs before hval0 hW _ _ hL _
  have hval : ∀ (j : Nat) t v, Tryd.f3.params[j]? = some t → args[j]? = some v → Value.okWide Tryd.prog W .any base t v := hval0
  have hW' := hW
  obtain ⟨p, q, hA0, hV, rfl, hfz, hnd⟩ := hW
  have hA : DataW.TrodAll enc Tryd.prog W 0 (fun _ => true) true Tryd.f3.params.toList args.toList ds p := hA0
  rw [Tryd.params3] at hA hval
  obtain ⟨v0, vs0, d0, ds0, p0, q0, hargs, rfl, rfl, h0, r0⟩ := trodAll_cons hA
  obtain ⟨rfl, rfl, rfl⟩ := trodAll_nil r0
  obtain rfl : args = #[v0] := by cases args; simp_all
  obtain ⟨rfl, rfl⟩ := trodVars_none hV
  obtain ⟨cs0, rfl, hcs0⟩ := okWide_struct Tryd.underlying27 (hval 0 27 v0 rfl rfl)
  have k0 := h0
  have lt0 : ∀ x ∈ p0, x.block < W.heap.size := by obtain ⟨m, hm⟩ := k0; exact DataW.trod_lt m _ _ _ hm
  obtain ⟨fuel0, hf0⟩ := h0
  obtain ⟨a0, fa0, fc0, va0, vc0, rfl, w0⟩ := ms_of hcs0 hf0
  clear hA0 hval0
  have hE := handle_of_laid hL
  refine (walk a0 fa0 fc0 va0 vc0 W hE w0).mono fun e W' ⟨he, bel⟩ => ?_
  subst he
  exact ⟨_, rfl, _, _, _, [], _, [], hW', trodAll_mk1 (shut_bool Tryd.underlying4 _), (trodAll_cons_mk (Below.trod laidOut (by kernel_rfl) (of_decide_eq_true (by kernel_rfl)) k0 bel lt0) trodAll_mk0), rfl, bel.frame _, fun h => by cases h⟩

theorem over : Rows.msgWritesRow.holds Tryd.pinned (OpenSpec.ofChange Rows.msgWritesSpec) :=
  OpenClaim.holds_of_wide 3 Tryd.f3 rfl rfl rfl rfl rfl rfl rfl ⟨rfl, rfl, rfl, rfl, rfl⟩ rfl rfl rfl rfl rfl (by kernel_rfl) Tryd.func3 (by kernel_rfl)
    (of_decide_eq_true (by kernel_rfl)) (by unfold Func.isWrapper; first | (rw [if_pos (by decide +kernel)]; kernel_rfl) | (rw [if_neg (by decide +kernel)]; exact ⟨rfl, rfl⟩))
    (fun os started H enc _ => lifted os started H enc)

theorem card : Rows.MsgWritesCardSaid :=
  Claim7.holds_tied_plain_at .later [] [.handle] true (true, "517bc56105d4a535fd8c7bc16cfc717bbeae951287b562ea5e9e7a8c50a83bcc") true
    over (fun _ h => by cases h) (by kernel_rfl) (fun _ h => by cases h) msgWrites_row_tie rfl ⟨rfl, rfl⟩ (by kernel_rfl) rfl
    (fun f fn hf hfn => by
      obtain rfl : f = 3 := Option.some.inj ((show Tryd.prog.funcNamed "wigwag/wigwaglaw15.MsgWrites" = some 3 by kernel_rfl).symm.trans hf) |>.symm
      obtain rfl : fn = Tryd.f3 := (Option.some.inj (Tryd.func3.symm.trans hfn)).symm
      exact ⟨by kernel_rfl, fun j t ht => by
        rw [Tryd.params3] at ht
        have hall : ∀ t ∈ ([27] : List TypeId), Tryd.prog.wantsStandIn t = false := by
          intro t ht
          simp only [List.mem_cons, List.not_mem_nil, or_false] at ht
          subst ht; kernel_rfl
        exact hall t (by simpa using List.mem_of_getElem? (l := ([27] : List TypeId)) (i := j) (by simpa using ht))⟩)
    (by kernel_rfl)

end Go.Proofs.YtnikliadfcgjiaaDoor.msgWrites

namespace Go.Proofs.YtnikliadfcgjiaaDoor
/-- Proved: for every message, MsgWrites answers true (messages are checked and written as the document has it). -/
theorem msgWrites_holds : Rows.MsgWritesCardSaid := msgWrites.card
#print axioms msgWrites_holds
end Go.Proofs.YtnikliadfcgjiaaDoor
