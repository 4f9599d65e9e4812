/- Proved: for every text, MsgReads answers true (any bytes are read as the message that they are, or refused, as the document has it).
  The frame is the guide's own shell (proof-skeleton.mjs) at this function; the walk and all ahead of it are mine. -/
import Derived.Test.YtakfinccoffplaaDoorRows
import Derived.Test.YtakfinccoffplaaDoorAid
import Derived.Test.YtakfinccoffplaaDoorCodeMath
import Derived.Test.YtakfinccoffplaaDoorBagMath
import Derived.Test.YtakfinccoffplaaDoorCut
import Derived.Test.YtakfinccoffplaaDoorMsMath
import Derived.Test.YtakfinccoffplaaDoorMsChk
import Derived.Test.YtakfinccoffplaaDoorMsWr
import Derived.Test.YtakfinccoffplaaDoorMsBy
import Derived.Test.YtakfinccoffplaaDoorMsRd
import Derived.Test.YtakfinccoffplaaDoorMsAwake
import Derived.Test.YtakfinccoffplaaDoorMsAid
import Derived.Test.YtakfinccoffplaaDoorMsCut
import Derived.Test.YtakfinccoffplaaDoorMsRow
import Derived.Test.YtakfinccoffplaaDoorMsLen
import Derived.Test.YtakfinccoffplaaDoorMsSame
import Derived.Test.YtakfinccoffplaaDoorJoinMsRef
import Derived.Test.YtakfinccoffplaaDoorMsRr
import Derived.Deep.CutBlock
import Derived.Deep.DeepCutAuto
import Derived.Deep.QuietTactic
import Derived.BigQuiet
import Derived.WalkKit
import Derived.WalkLawsBesides
import Derived.ProofKit
import Derived.OpenShut
import Derived.ChangeSame
import Derived.ChangeVars
import Derived.JoinedOf
import Derived.RowKit
import Derived.RowKitTokens
import Derived.LaidLaws
import Derived.LaidHandle
import Derived.Stop.Joined
import Derived.SevenTiedAt
import Derived.Test.YtakfinccoffplaaDoorTie
import Derived.Test.YtakfinccoffplaaDoorCards
import Derived.ShutString
import Derived.ChangeOld
import Derived.Below
namespace Go.Proofs.YtakfinccoffplaaDoor.msgReads
open Go.ChangeShapes Go.WideShapes Go.ChangeAt Go.RowKit
open Go.ChangeMaps (open_string shut_string)
set_option linter.unusedVariables false

theorem own : ownKnob Tryd.prog.godebug = none := by kernel_rfl
theorem laidOut : laidOutB Tryd.prog = true := by kernel_rfl


theorem err_of (c : Nat) (v : Value) (w : World) (h : ErrIs w v c) (hT : ErrType w) : Calls Tryd.prog 10 #[v] w fun e w' => e = .returned (.int .i64 (c : Int)) ∧ Below w.heap.size w w' := by
  rcases h with ⟨rfl, rfl⟩ | ⟨hc, rfl⟩ | ⟨hc, hF⟩
  · refine (of_nil w).mono ?_
    rintro e w' ⟨rfl, hw'⟩
    subst w'
    exact ⟨rfl, Below.refl _ _⟩
  · exact of_code c w hT
  · obtain ⟨g, at', rfl, hh⟩ := hF
    exact of_fault g c w hT ⟨g, at', rfl, hh⟩
theorem errBelow {w w' : World} {v : Value} {c : Nat} (h : ErrIs w v c) (hb : Below w.heap.size w w') : ErrIs w' v c := by
  rcases h with h | h | ⟨hc, g, at', rfl, hh⟩
  · exact .inl h
  · exact .inr (.inl h)
  · exact .inr (.inr ⟨hc, g, at', rfl, (hb.block g (lt_of_block hh)).trans hh⟩)
theorem et : Tryd.prog.globalNamed "errors.errorType" = some 0 := by kernel_rfl
theorem rt : (Tryd.prog.cutTypes.find? (·.1 == "internal/reflectlite.rtype")).map (·.2) = some 112 := by kernel_rfl
theorem oneRow : ((List.range 155).filter fun t => Tryd.prog.rowNamed t [101, 114, 114, 111, 114]) = [30] := by kernel_rfl
theorem typesSize : Tryd.prog.types.size = 155 := by kernel_rfl
/-- What the tied variable gives a walk: its one cell. -/
theorem handle_of_laid {W : World} (h : laidMetH Tryd.prog Rows.msgReadsRow.laid W) : ErrType W := by
  have h' : laidMet Tryd.prog [] W ∧ handlesMet Tryd.prog Rows.msgReadsRow.laid W := h
  obtain ⟨name, u, ty, e1, e2, e3, e4, e5⟩ := h'.2 _ (List.mem_singleton.2 rfl)
  have en : name = [101, 114, 114, 111, 114] := (Option.some.inj e1).symm
  subst en
  obtain rfl := Option.some.inj (rt.symm.trans e2)
  have hm : ty ∈ (List.range 155).filter fun t => Tryd.prog.rowNamed t [101, 114, 114, 111, 114] := List.mem_filter.2 ⟨List.mem_range.2 (by rw [← typesSize]; exact e3), e4⟩
  rw [oneRow] at hm
  obtain rfl := List.mem_singleton.1 hm
  have hh : typeHandle Tryd.prog 30 = .pointer (some ⟨1, 30, none⟩) := by kernel_rfl
  rw [hh] at e5
  unfold ErrType
  simpa using World.var?_cell et e5 0

/-! ### STEP 1: the walk -/
set_option maxRecDepth 100000 in
set_option maxHeartbeats 2000000 in
theorem walk (a0 : ByteArray) (w : World) (hE : ErrType w) (w0 : a0.size ≤ maxLen) :
    Calls Tryd.prog 4 #[.string a0] w fun e w' => e = .returned (.bool true) ∧ Below w.heap.size w w' := by
  have cc := cut_any a0 2100 w w0
  have hxs := cut_size a0 2100
  generalize cut a0 2100 = x at cc hxs
  have cr : ∀ W, _ := fun W => mread_any x W (by omega)
  have rr : ∀ W, _ := fun W => rread_any x W (by omega)
  generalize rdM x.data.toList = r at cr rr
  obtain ⟨m, c⟩ := r
  simp only at cr rr
  have hE0 := hE.lt
  go_enter Tryd.func4, Tryd.ntmps4
  go_wp2_with fail
  refine cc.mono ?_
  rintro e w' ⟨rfl, hw'⟩
  subst w'
  go_wp2_with fail
  refine (cr _).mono ?_
  rintro e w1 ⟨fa, fc, va, vc, ev, rfl, hE1, hf1, hv1, hb1⟩
  unfold Mg.val
  obtain ⟨W2, hW2⟩ : ∃ W2, W2 = w1.alloc (.cells #[.int .i64 m.kind, .string m.group, .bool m.any, .slice fa m.fl.length fc, .int .i64 m.pub, .int .i64 m.seq, .int .i64 m.hops, .slice va m.vl.length vc, .string m.pay] 27) := ⟨_, rfl⟩
  have b2 : Below w1.heap.size w1 W2 := by rw [hW2]; exact below1 _ _
  have qA2 : W2.heap[w1.heap.size]? = some (.cells #[.int .i64 m.kind, .string m.group, .bool m.any, .slice fa m.fl.length fc, .int .i64 m.pub, .int .i64 m.seq, .int .i64 m.hops, .slice va m.vl.length vc, .string m.pay] 27 (0, 0)) := by rw [hW2]; exact heap_alloc_new w1 _
  go_upto_region 3 with fail
  rw [← hW2]
  clear hW2
  go_wp2_with fail
  refine (rr _).mono ?_
  rintro e w3 ⟨fb, fd, vb, vd, rfl, hf3, hv3, hb3⟩
  unfold Mg.val
  obtain ⟨W4, hW4⟩ : ∃ W4, W4 = w3.alloc (.cells #[.int .i64 m.kind, .string m.group, .bool m.any, .slice fb m.fl.length fd, .int .i64 m.pub, .int .i64 m.seq, .int .i64 m.hops, .slice vb m.vl.length vd, .string m.pay] 37) := ⟨_, rfl⟩
  have b4 : Below w3.heap.size w3 W4 := by rw [hW4]; exact below1 _ _
  have qB4 : W4.heap[w3.heap.size]? = some (.cells #[.int .i64 m.kind, .string m.group, .bool m.any, .slice fb m.fl.length fd, .int .i64 m.pub, .int .i64 m.seq, .int .i64 m.hops, .slice vb m.vl.length vd, .string m.pay] 37 (0, 0)) := by rw [hW4]; exact heap_alloc_new w3 _
  go_upto_region 4 with fail
  rw [← hW4]
  clear hW4
  have l2 := lt_of_block qA2
  have l4 := lt_of_block qB4
  have b24 : Below W2.heap.size W2 W4 := hb3.trans (b4.mono hb3.size)
  have qA4 := (b24.block _ l2).trans qA2
  have b14 : Below w1.heap.size w1 W4 := b2.trans (b24.mono b2.size)
  have bw4 : Below w.heap.size w W4 := hb1.trans (b14.mono hb1.size)
  have HI : Hid (((InRow 1 encS okS ByteArray.empty W4 fa m.fl.length m.fl ∧ InRow 2 Vl.cells Vl.ok vl0 W4 va m.vl.length m.vl) ∧ (InRow 1 encS okS ByteArray.empty W4 fb m.fl.length m.fl ∧ InRow 2 Vl.cells Vl.ok vl0 W4 vb m.vl.length m.vl)) ∧ ErrIs W4 ev c) :=
    ⟨⟨⟨hf1.below (Nat.le_refl _) b14, hv1.below (Nat.le_refl _) b14⟩, hf3.below (Nat.le_refl _) b4, hv3.below (Nat.le_refl _) b4⟩, errBelow hE1 b14⟩
  have hvn := hv1.2.1
  clear hf1 hv1 hf3 hv3 hE1 hb1 hb3 b2 b4 b24 b14 qA2 cr rr cc
  generalize w1.heap.size = za at *
  generalize w3.heap.size = zb at *
  go_wp2_with fail
  refine (awake15_any _).mono ?_
  rintro e w5 ⟨rfl, hb5⟩
  have bw5 := bw4.trans (hb5.mono bw4.size)
  go_wp2_with fail
  refine (err_of c ev w5 (errBelow HI.out.2 hb5) (hE.below hE0 bw5)).mono ?_
  rintro e w6 ⟨rfl, hb6⟩
  have b46 : Below W4.heap.size W4 w6 := hb5.trans (hb6.mono hb5.size)
  have bw6 := bw4.trans (b46.mono bw4.size)
  have qA6 := (b46.block _ (lt_of_block qA4)).trans qA4
  have qB6 := (b46.block _ l4).trans qB4
  obtain ⟨x0, x1, x2, x3, x4, x5, x6, x7, x8⟩ := cells9 qA6
  obtain ⟨y0, y1, y2, y3, y4, y5, y6, y7, y8⟩ := cells9 qB6
  have xl := lt_of_block qA6
  have yl := lt_of_block qB6
  obtain ⟨W8, hW8⟩ : ∃ W8, W8 = w6.alloc (.cells #[.int .i64 m.kind, .string m.group, .bool m.any, .slice fa m.fl.length fc, .int .i64 m.pub, .int .i64 m.seq, .int .i64 m.hops, .slice vb m.vl.length vd, .string m.pay] 37) := ⟨_, rfl⟩
  have b8 : Below w6.heap.size w6 W8 := by rw [hW8]; exact below1 _ _
  have qY : W8.heap[w6.heap.size]? = some (.cells #[.int .i64 m.kind, .string m.group, .bool m.any, .slice fa m.fl.length fc, .int .i64 m.pub, .int .i64 m.seq, .int .i64 m.hops, .slice vb m.vl.length vd, .string m.pay] 37 (0, 0)) := by rw [hW8]; exact heap_alloc_new w6 _
  go_upto_region 8 with fail
  rw [← hW8]
  clear hW8 x0 x1 x2 x3 x4 x5 x6 x7 x8 y0 y1 y2 y3 y4 y5 y6 y7 y8
  have qA8 := (b8.block _ xl).trans qA6
  have qB8 := (b8.block _ yl).trans qB6
  have b48 := b46.trans (b8.mono b46.size)
  have HJ : Hid (Below w.heap.size w W8) := bw6.trans (b8.mono bw6.size)
  have HK : Hid ((InRow 1 encS okS ByteArray.empty W8 fa m.fl.length m.fl ∧ InRow 2 Vl.cells Vl.ok vl0 W8 va m.vl.length m.vl) ∧ (InRow 1 encS okS ByteArray.empty W8 fb m.fl.length m.fl ∧ InRow 2 Vl.cells Vl.ok vl0 W8 vb m.vl.length m.vl)) :=
    ⟨⟨HI.out.1.1.1.below (Nat.le_refl _) b48, HI.out.1.1.2.below (Nat.le_refl _) b48⟩, HI.out.1.2.1.below (Nat.le_refl _) b48, HI.out.1.2.2.below (Nat.le_refl _) b48⟩
  have HQ : Hid (W8.heap[za]? = some (.cells #[.int .i64 m.kind, .string m.group, .bool m.any, .slice fa m.fl.length fc, .int .i64 m.pub, .int .i64 m.seq, .int .i64 m.hops, .slice va m.vl.length vc, .string m.pay] 27 (0, 0)) ∧ W8.heap[zb]? = some (.cells #[.int .i64 m.kind, .string m.group, .bool m.any, .slice fb m.fl.length fd, .int .i64 m.pub, .int .i64 m.seq, .int .i64 m.hops, .slice vb m.vl.length vd, .string m.pay] 37 (0, 0)) ∧ W8.heap[w6.heap.size]? = some (.cells #[.int .i64 m.kind, .string m.group, .bool m.any, .slice fa m.fl.length fc, .int .i64 m.pub, .int .i64 m.seq, .int .i64 m.hops, .slice vb m.vl.length vd, .string m.pay] 37 (0, 0))) := ⟨qA8, qB8, qY⟩
  have z7 : W8.cell? ⟨zb, 7, none⟩ = some (.slice vb m.vl.length vd) := blk_cell (j := 7) qB8 (by simp)
  have zl := lt_of_block qB8
  clear HI qA6 qB6 qA8 qB8 qY b8 b48 b46 bw6 bw5 hb5 hb6 xl yl qA4 qB4 bw4 l2 l4
  go_wp2
  go_loopw [63] (fun sx wr => ∃ (j k : Nat), sx = .int .i64 j ∧ j ≤ m.vl.length ∧ wr = W8.drewN k) (fun sx _ => m.vl.length - (intOf sx).toNat)
  case atStart => exact ⟨0, 0, rfl, Nat.zero_le _, rfl⟩
  case round =>
    obtain ⟨j, k, rfl, hj, rfl⟩ := hrel
    by_cases hlt : j < m.vl.length
    · obtain ⟨b1, o1, ha, hb1, _, hc1⟩ := HK.out.1.2.get j hlt
      obtain ⟨b2, o2, hb, hb2, _, hc2⟩ := HK.out.2.2.get j hlt
      subst ha hb
      have t7 : (W8.drewN k).cell? ⟨za, 7, none⟩ = some (.slice (some ⟨b1, o1, none⟩) m.vl.length vc) := blk_cell (j := 7) HQ.out.1 (by simp)
      have u7 : (W8.drewN k).cell? ⟨zb, 7, none⟩ = some (.slice (some ⟨b2, o2, none⟩) m.vl.length vd) := blk_cell (j := 7) HQ.out.2.1 (by simp)
      have tl : za < (W8.drewN k).heap.size := lt_of_block HQ.out.1
      have ul : zb < (W8.drewN k).heap.size := lt_of_block HQ.out.2.1
      have r10 : (W8.drewN k).cell? ⟨b1, o1 + j * 2, none⟩ = some (.int .i64 (m.vl.getD j vl0).num) := by have := hc1 0 (by omega); simpa [Vl.cells] using this
      have r11 : (W8.drewN k).cell? ⟨b1, o1 + j * 2 + 1, none⟩ = some (.string (m.vl.getD j vl0).str) := by have := hc1 1 (by omega); simpa [Vl.cells] using this
      have r20 : (W8.drewN k).cell? ⟨b2, o2 + j * 2, none⟩ = some (.int .i64 (m.vl.getD j vl0).num) := by have := hc2 0 (by omega); simpa [Vl.cells] using this
      have r21 : (W8.drewN k).cell? ⟨b2, o2 + j * 2 + 1, none⟩ = some (.string (m.vl.getD j vl0).str) := by have := hc2 1 (by omega); simpa [Vl.cells] using this
      have l1 : b1 < (W8.drewN k).heap.size := hb1
      have l2 : b2 < (W8.drewN k).heap.size := hb2
      clear hc1 hc2
      generalize m.vl.getD j vl0 = sv at r10 r11 r20 r21
      generalize hW : W8.drewN k = W at *
      have hj0 : (0 : Int) ≤ (j : Int) := Int.natCast_nonneg _
      have hj1 : (j : Int) < (m.vl.length : Int) := by omega
      have HW : Hid (W8.drewN k = W) := hW
      clear hW z7 zl
      go_wp2_with fail
      go_quiet (fail)
      go_wp2
      go_roundw
      case rel => exact ⟨j + 1, k + nq, by go_num, by omega, by rw [← HW.out]; simp [World.drewN, Nat.add_assoc]⟩
      case measure => simp [intOf]; omega
    · have hj1 : ¬ (j : Int) < (m.vl.length : Int) := by omega
      have cs := same15 m fa fb fc fd vb vb vd vd (W8.drewN k) (HK.out.1.1.drewN k) (HK.out.2.1.drewN k) (HK.out.2.2.drewN k) (HK.out.2.2.drewN k)
      unfold Mg.val at cs
      have pY : (W8.drewN k).heap[w6.heap.size]? = some (.cells #[.int .i64 m.kind, .string m.group, .bool m.any, .slice fa m.fl.length fc, .int .i64 m.pub, .int .i64 m.seq, .int .i64 m.hops, .slice vb m.vl.length vd, .string m.pay] 37 (0, 0)) := HQ.out.2.2
      have pB : (W8.drewN k).heap[zb]? = some (.cells #[.int .i64 m.kind, .string m.group, .bool m.any, .slice fb m.fl.length fd, .int .i64 m.pub, .int .i64 m.seq, .int .i64 m.hops, .slice vb m.vl.length vd, .string m.pay] 37 (0, 0)) := HQ.out.2.1
      obtain ⟨x0, x1, x2, x3, x4, x5, x6, x7, x8⟩ := cells9 pY
      obtain ⟨y0, y1, y2, y3, y4, y5, y6, y7, y8⟩ := cells9 pB
      have xl := lt_of_block pY
      have yl := lt_of_block pB
      clear pY pB z7 zl
      go_wp2_with fail
      refine cs.mono ?_
      rintro e w9 ⟨rfl, hb9⟩
      have hB := HJ.out
      have h0 : Below w.heap.size w (W8.drewN k) := ⟨hB.os, hB.tape, hB.output, hB.size, hB.block⟩
      go_wp2
      go_ret
      exact ⟨rfl, h0.trans (hb9.mono h0.size)⟩

/-! ### The row's step -/
set_option maxRecDepth 100000 in
theorem lifted (os : Os) (started : os.Started) (H : Type) (enc : TypeId × Value → H) :
    ReturnsInHanded {} Tryd.checked os 4 .any (fun w args => (Rows.msgReadsSpec.pre enc Tryd.prog Tryd.f4 [] false w args ∧ laidMetH Tryd.prog Rows.msgReadsRow.laid w) ∧ sizedMet enc Tryd.prog Tryd.f4 (OpenSpec.ofChange Rows.msgReadsSpec) false w args) (Rows.msgReadsSpec.post enc Tryd.prog Tryd.f4 false true false false) := by
  refine returnsInHanded_of_change_and (C := Tryd.checked) (X := fun w _ => laidMetH Tryd.prog Rows.msgReadsRow.laid w) (fun _ _ _ hh h => h.of_heap hh) own started (by kernel_rfl) Tryd.func4
    (ChangeSpec.witness_at (enc := enc) (C := Tryd.checked) (os := os) (X := fun w _ => laidMetH Tryd.prog Rows.msgReadsRow.laid w) false ({ World.holding Tryd.prog os ⟨#[], #[], []⟩ with heap := (World.holding Tryd.prog os ⟨#[], #[], []⟩).heap.modify 0 fun | .cells _ t frozen => .cells #[.iface 112 (.agg #[.pointer (some ⟨1, 30, none⟩)])] t frozen | o => o }) #[.string ByteArray.empty] 8 rfl (by kernel_rfl) (by kernel_rfl) (by kernel_rfl) (by kernel_rfl) (by kernel_rfl) (laidMetH_of_parts (laidMet_nil _ _) (by kernel_rfl))) ?_
  intro W base args ds gs before hval0 hW _ _ hL _
  have hval : ∀ (j : Nat) t v, Tryd.f4.params[j]? = some t → args[j]? = some v → Value.okWide Tryd.prog W .any base t v := hval0
  have hW' := hW
  obtain ⟨p, q, hA0, hV, rfl, hfz, hnd⟩ := hW
  have hA : DataW.TrodAll enc Tryd.prog W 0 (fun _ => true) true Tryd.f4.params.toList args.toList ds p := hA0
  rw [Tryd.params4] at hA hval
  obtain ⟨v0, vs0, d0, ds0, p0, q0, hargs, rfl, rfl, h0, r0⟩ := trodAll_cons hA
  obtain ⟨rfl, rfl, rfl⟩ := trodAll_nil r0
  obtain rfl : args = #[v0] := by cases args; simp_all
  obtain ⟨rfl, rfl⟩ := trodVars_none hV
  obtain ⟨a0, rfl, rfl, rfl, w0⟩ := open_string Tryd.underlying9 (hval 0 9 v0 rfl rfl) h0
  clear hA0 hval0
  have hE := handle_of_laid hL
  refine (walk a0 W hE w0).mono fun e W' ⟨he, bel⟩ => ?_
  subst he
  exact ⟨_, rfl, _, _, _, [], _, [], hW', trodAll_mk1 (shut_bool Tryd.underlying4 _), (trodAll_cons_mk (shut_string Tryd.underlying9 w0) trodAll_mk0), rfl, bel.frame _, fun h => by cases h⟩

theorem over : Rows.msgReadsRow.holds Tryd.pinned (OpenSpec.ofChange Rows.msgReadsSpec) :=
  OpenClaim.holds_of_wide 4 Tryd.f4 rfl rfl rfl rfl rfl rfl rfl ⟨rfl, rfl, rfl, rfl, rfl⟩ rfl rfl rfl rfl rfl (by kernel_rfl) Tryd.func4 (by kernel_rfl)
    (of_decide_eq_true (by kernel_rfl)) (by unfold Func.isWrapper; first | (rw [if_pos (by decide +kernel)]; kernel_rfl) | (rw [if_neg (by decide +kernel)]; exact ⟨rfl, rfl⟩))
    (fun os started H enc _ => lifted os started H enc)

theorem card : Rows.MsgReadsCardSaid :=
  Claim7.holds_tied_plain_at .later [] [.handle] true (true, "517bc56105d4a535fd8c7bc16cfc717bbeae951287b562ea5e9e7a8c50a83bcc") true
    over (fun _ h => by cases h) (by kernel_rfl) (fun _ h => by cases h) msgReads_row_tie rfl ⟨rfl, rfl⟩ (by kernel_rfl) rfl
    (fun f fn hf hfn => by
      obtain rfl : f = 4 := Option.some.inj ((show Tryd.prog.funcNamed "wigwag/wigwaglaw15.MsgReads" = some 4 by kernel_rfl).symm.trans hf) |>.symm
      obtain rfl : fn = Tryd.f4 := (Option.some.inj (Tryd.func4.symm.trans hfn)).symm
      exact ⟨by kernel_rfl, fun j t ht => by
        rw [Tryd.params4] at ht
        have hall : ∀ t ∈ ([9] : List TypeId), Tryd.prog.wantsStandIn t = false := by
          intro t ht
          simp only [List.mem_cons, List.not_mem_nil, or_false] at ht
          subst ht; kernel_rfl
        exact hall t (by simpa using List.mem_of_getElem? (l := ([9] : List TypeId)) (i := j) (by simpa using ht))⟩)
    (by kernel_rfl)

end Go.Proofs.YtakfinccoffplaaDoor.msgReads

namespace Go.Proofs.YtakfinccoffplaaDoor
/-- Proved: for every text, MsgReads answers true (any bytes are read as the message that they are, or refused, as the document has it). -/
theorem msgReads_holds : Rows.MsgReadsCardSaid := msgReads.card
#print axioms msgReads_holds
end Go.Proofs.YtakfinccoffplaaDoor
