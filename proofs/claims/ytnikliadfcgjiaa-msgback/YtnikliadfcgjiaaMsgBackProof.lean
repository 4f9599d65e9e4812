/- Proved: for every message and text, MsgBack answers true (a message that is right goes and comes back, and bytes that are read as one are its bytes).
  The frame is the guide's own shell (proof-skeleton.mjs) at this function; the walk and all ahead of it are mine. -/
import Derived.Test.YtnikliadfcgjiaaRows
import Derived.Test.YtnikliadfcgjiaaAid
import Derived.Test.YtnikliadfcgjiaaCodeMath
import Derived.Test.YtnikliadfcgjiaaBagMath
import Derived.Test.YtnikliadfcgjiaaCut
import Derived.Test.YtnikliadfcgjiaaMsMath
import Derived.Test.YtnikliadfcgjiaaMsChk
import Derived.Test.YtnikliadfcgjiaaMsWr
import Derived.Test.YtnikliadfcgjiaaMsBy
import Derived.Test.YtnikliadfcgjiaaMsRd
import Derived.Test.YtnikliadfcgjiaaMsAwake
import Derived.Test.YtnikliadfcgjiaaMsAid
import Derived.Test.YtnikliadfcgjiaaMsCut
import Derived.Test.YtnikliadfcgjiaaMsRow
import Derived.Test.YtnikliadfcgjiaaMsLen
import Derived.Test.YtnikliadfcgjiaaMsSame
import Derived.Deep.CutBlock
import Derived.Deep.DeepCutAuto
import Derived.WalkKit
import Derived.WalkLawsBesides
import Derived.ProofKit
import Derived.OpenShut
import Derived.ShutString
import Derived.ChangeOld
import Derived.Below
namespace Go.Proofs.Ytnikliadfcgjiaa.msgBack
open Go.ChangeShapes Go.WideShapes Go.ChangeAt Go.RowKit
open Go.ChangeMaps (open_string shut_string)
set_option linter.unusedVariables false

theorem own : ownKnob Try.prog.godebug = none := by kernel_rfl
theorem laidOut : laidOutB Try.prog = true := by kernel_rfl


theorem mB_parts (m : Mg) (hc : chk m = 0) : (m.fl.flatMap txtB).length + (m.vl.flatMap vlB).length + (txtB m.pay).length ≤ (mB m).length + 20 := by
  obtain ⟨s1, s2, hK⟩ := chk_shape hc
  have hlt : (tlB m).length ≤ (mB m).length := by unfold mB; simp; omega
  have hk := chk_kind hK
  have he : (txtB ByteArray.empty).length = 1 := by decide
  rcases hk with hk | hk | hk | hk | hk
  · have hP : chkP m = 0 ∧ (m.any = true → m.fl = []) := by
      unfold chkK at hK
      rw [if_pos hk] at hK
      split at hK
      · omega
      · rename_i hn
        refine ⟨hK, fun ha => ?_⟩
        cases hf : m.fl with
        | nil => rfl
        | cons a l => exact absurd (.inl ⟨ha, by simp [hf]⟩) hn
    obtain ⟨_, _, p3, p4⟩ := chkP_zero hP.1
    rw [p3, p4, he]
    by_cases ha : m.any = true
    · rw [hP.2 ha]; simp
    · have et : tlB m = intB m.fl.length ++ m.fl.flatMap txtB := by unfold tlB; rw [if_pos hk, if_neg ha]
      rw [et] at hlt; simp only [List.length_append] at hlt; simp only [List.flatMap_nil, List.length_nil]; omega
  · have hP : chkP m = 0 := by unfold chkK at hK; rw [if_neg (by omega), if_pos hk] at hK; exact hK
    obtain ⟨_, _, p3, p4⟩ := chkP_zero hP
    rw [p3, p4, he, (s1 (by omega)).2]; simp
  · have hE : m.vl = [] ∧ m.pay = ByteArray.empty := by
      unfold chkK at hK
      rw [if_neg (by omega), if_neg (by omega), if_pos hk] at hK
      split at hK
      · omega
      · rename_i hn
        refine ⟨?_, ba_nil _ (by omega)⟩
        cases hv : m.vl with
        | nil => rfl
        | cons a l => exact absurd (.inl (by simp [hv])) hn
    rw [hE.1, hE.2, he, (s1 (by omega)).2]; simp
  all_goals
    have et : tlB m = intB m.pub ++ (intB m.seq ++ (intB m.hops ++ (intB m.vl.length ++ (m.vl.flatMap vlB ++ txtB m.pay)))) := by
      unfold tlB; rw [if_neg (by omega), if_pos (by omega), if_neg (by omega)]
    rw [(s1 (by omega)).2]
    rw [et] at hlt; simp only [List.length_append] at hlt; simp only [List.flatMap_nil, List.length_nil]; omega
theorem cut_idem (s : ByteArray) (n : Nat) (h : s.size ≤ n) : cut s n = s := by unfold cut; rw [if_neg (by omega)]
theorem tol_cut (m : Mg) : tolM (cutM m) = cutM m := by
  unfold tolM
  have : ((cutM m).vl.take 6).map cutV = (cutM m).vl := by
    show (((m.vl.take 6).map cutV).take 6).map cutV = (m.vl.take 6).map cutV
    rw [List.take_of_length_le (by simp; omega), List.map_map]
    apply List.map_congr_left
    intro v _
    show (⟨v.num, cut (cut v.str 50) 50⟩ : Vl) = ⟨v.num, cut v.str 50⟩
    rw [cut_idem _ _ (cut_size _ _)]
  rw [this]
/-! ### STEP 1: the walk -/
set_option maxRecDepth 100000 in
set_option maxHeartbeats 2000000 in
theorem walk (a0 : Mg) (fa0 : Option Addr) (fc0 : Nat) (va0 : Option Addr) (vc0 : Nat) (a1 : ByteArray) (w : World) (w0 : MsOk w a0 fa0 va0) (w1 : a1.size ≤ maxLen) :
    Calls Try.prog 3 #[a0.val fa0 fc0 va0 vc0, .string a1] w fun e w' => e = .returned (.bool true) ∧ Below w.heap.size w w' := by
  have hcut : ∀ W, Below w.heap.size w W → _ := fun W hb => cut15_any a0 fa0 fc0 va0 vc0 W (w0.fr.below (Nat.le_refl _) hb) (w0.vr.below (Nat.le_refl _) hb) w0.gs w0.ps
  have hsm : (cutM a0).group.size ≤ 9223372036854775807 := by have := cut_size a0.group 50; show (cut a0.group 50).size ≤ _; omega
  have htol : tolM (cutM a0) = cutM a0 := tol_cut a0
  have hpay : (cutM a0).pay.size ≤ maxLen := by have := cut_size a0.pay 2100; show (cut a0.pay 2100).size ≤ _; unfold maxLen; omega
  have hlen : ((cutM a0).fl.flatMap txtB).length + ((cutM a0).vl.flatMap vlB).length + (txtB (cutM a0).pay).length ≤ 700000 := cut_len a0 w0
  have hwf : (cutM a0).wf := cut_wf a0 w0
  generalize cutM a0 = c at hcut hsm hlen hwf htol hpay
  obtain ⟨w1, hw1⟩ : ∃ W, W = w.alloc (.cells #[.int .i64 a0.kind, .string a0.group, .bool a0.any, .slice fa0 a0.fl.length fc0, .int .i64 a0.pub, .int .i64 a0.seq, .int .i64 a0.hops, .slice va0 a0.vl.length vc0, .string a0.pay] 27) := ⟨_, rfl⟩
  have b1 : Below w.heap.size w w1 := by rw [hw1]; exact below1 _ _
  have p1 : w1.heap[w.heap.size]? = some (.cells #[.int .i64 a0.kind, .string a0.group, .bool a0.any, .slice fa0 a0.fl.length fc0, .int .i64 a0.pub, .int .i64 a0.seq, .int .i64 a0.hops, .slice va0 a0.vl.length vc0, .string a0.pay] 27 (0, 0)) := by rw [hw1]; exact heap_alloc_new w _
  obtain ⟨x0, x1, x2, x3, x4, x5, x6, x7, x8⟩ := cells9 p1
  have xl := lt_of_block p1
  unfold Mg.val
  go_enter Try.func3, Try.ntmps3
  go_upto_region 1 with fail
  rw [← hw1]
  clear hw1
  go_wp2_with fail
  refine (hcut _ b1).mono ?_
  rintro e w2 ⟨fa, fc, va, vc, rfl, hf2, hv2, hnew, hb2⟩
  have p2 := (hb2.block _ xl).trans p1
  obtain ⟨y0, y1, y2, y3, y4, y5, y6, y7, y8⟩ := cells9 p2
  have yf := frozen9 p2
  have yl := lt_of_block p2
  obtain ⟨w3, hw3⟩ : ∃ W, W = sets9 w2 w.heap.size (.int .i64 c.kind) (.string c.group) (.bool c.any) (.slice fa c.fl.length fc) (.int .i64 c.pub) (.int .i64 c.seq) (.int .i64 c.hops) (.slice va c.vl.length vc) (.string c.pay) := ⟨_, rfl⟩
  have p3 : w3.heap[w.heap.size]? = _ := (congrArg (fun W : World => W.heap[w.heap.size]?) hw3).trans (sets9_box p2)
  have b3 : Below w.heap.size w w3 := by
    refine below_sets (b1.trans (hb2.mono b1.size)) (by rw [hw3, sets9_size]; exact Nat.le_refl _) ?_ ?_ ?_ (fun k hk => by rw [hw3]; exact sets9_other hk)
    · rw [hw3]; exact sets9_rest.1
    · rw [hw3]; exact sets9_rest.2.1
    · rw [hw3]; exact sets9_rest.2.2
  have H3 : (((((((((w2.setCell ⟨w.heap.size, 0, none⟩ (.int .i64 c.kind)).setCell ⟨w.heap.size, 1, none⟩ (.string c.group)).setCell ⟨w.heap.size, 2, none⟩ (.bool c.any)).setCell ⟨w.heap.size, 3, none⟩ (.slice fa c.fl.length fc)).setCell ⟨w.heap.size, 4, none⟩ (.int .i64 c.pub)).setCell ⟨w.heap.size, 5, none⟩ (.int .i64 c.seq)).setCell ⟨w.heap.size, 6, none⟩ (.int .i64 c.hops)).setCell ⟨w.heap.size, 7, none⟩ (.slice va c.vl.length vc)).setCell ⟨w.heap.size, 8, none⟩ (.string c.pay)) = w3 := hw3.symm
  have hf3 : InRow 1 encS okS ByteArray.empty w3 fa c.fl.length c.fl := InRow.mv (p := w.heap.size) ⟨hf2, fun x hx => by have := hnew.1 x hx; omega⟩ (by rw [hw3, sets9_size]; exact Nat.le_refl _) (fun k hk => by rw [hw3]; exact sets9_other hk)
  have hv3 : InRow 2 Vl.cells Vl.ok vl0 w3 va c.vl.length c.vl := InRow.mv (p := w.heap.size) ⟨hv2, fun x hx => by have := hnew.2 x hx; omega⟩ (by rw [hw3, sets9_size]; exact Nat.le_refl _) (fun k hk => by rw [hw3]; exact sets9_other hk)
  have hfl := hf2.2.1
  have hvl := hv2.2.1
  unfold Mg.val
  clear x0 x1 x2 x3 x4 x5 x6 x7 x8 xl p1 hcut
  have HH3 : Hid _ := H3
  clear H3 hw3
  go_upto_region 2 with fail
  rw [HH3.out]
  clear HH3 y0 y1 y2 y3 y4 y5 y6 y7 y8 yf yl p2
  obtain ⟨z0, z1, z2, z3, z4, z5, z6, z7, z8⟩ := cells9 p3
  have zl := lt_of_block p3
  have hby := mbytes_any c fa fc va vc w3 hf3 hv3 hsm hlen
  unfold Mg.val at hby
  have ccut : ∀ W, _ := fun W => cut_any a1 2000 W (by assumption)
  have hxs := cut_size a1 2000
  generalize cut a1 2000 = x at ccut hxs
  have cread : ∀ W, _ := fun W => mread_any x W (by omega)
  have HOK : Hid ((rdM x.data.toList).2 = 0 → (x.data.toList = mB (rdM x.data.toList).1 ∧ chk (rdM x.data.toList).1 = 0 ∧ x.data.toList.length ≤ 1970 ∧ (rdM x.data.toList).1.wf)) := rdM_ok x.data.toList
  generalize rdM x.data.toList = r at cread HOK
  have HTP : Hid (tolM c = c ∧ c.pay.size ≤ maxLen) := ⟨htol, hpay⟩
  clear htol hpay
  by_cases hc : (byR c).2 = 0
  · have hcc : chk c = 0 := by
      unfold byR at hc
      split at hc
      · assumption
      · rename_i h; exact absurd hc h
    have hl : (mB c).length ≤ 1970 := by
      unfold byR at hc
      rw [if_pos hcc] at hc
      split at hc
      · simp at hc
      · omega
    have hby0 : byR c = (⟨(mB c).toArray⟩, 0) := by unfold byR; rw [if_pos hcc, if_neg (by omega)]
    rw [hby0] at hby
    simp only [cdV0] at hby
    have hrd := rdM_back c [] hwf hcc hl
    rw [List.append_nil, if_neg (by omega), if_pos rfl] at hrd
    obtain ⟨D, hD⟩ : ∃ D : ByteArray, D = ⟨(mB c).toArray⟩ := ⟨_, rfl⟩
    have hDl : D.data.toList = mB c := by rw [hD]
    have hDs : D.size = (mB c).length := by rw [hD]; exact ba_size _
    rw [← hD] at hby
    have crd : ∀ W, _ := fun W => mread_any D W (by omega)
    rw [hDl, hrd] at crd
    clear hD hDl hDs hl hrd hby0 hcc hwf hlen hc
    go_wp2_with fail
    refine hby.mono ?_
    rintro e w4 ⟨rfl, hb4⟩
    have b4 := b3.trans (hb4.mono b3.size)
    have p4 := (hb4.block _ zl).trans p3
    have hf4 := hf3.below (Nat.le_refl _) hb4
    have hv4 := hv3.below (Nat.le_refl _) hb4
    go_wp2_with fail
    refine (crd _).mono ?_
    rintro e w5 ⟨fa5, fc5, va5, vc5, ev5, rfl, hE5, hf5, hv5, hb5⟩
    have := hE5.zero
    subst this
    have b5 := b4.trans (hb5.mono b4.size)
    obtain ⟨W6, hW6⟩ : ∃ W6, W6 = w5.alloc (.cells #[.int .i64 c.kind, .string c.group, .bool c.any, .slice fa5 c.fl.length fc5, .int .i64 c.pub, .int .i64 c.seq, .int .i64 c.hops, .slice va5 c.vl.length vc5, .string c.pay] 27) := ⟨_, rfl⟩
    have bb6 : Below w5.heap.size w5 W6 := by rw [hW6]; exact below1 _ _
    have n6 : W6.heap[w5.heap.size]? = some (.cells #[.int .i64 c.kind, .string c.group, .bool c.any, .slice fa5 c.fl.length fc5, .int .i64 c.pub, .int .i64 c.seq, .int .i64 c.hops, .slice va5 c.vl.length vc5, .string c.pay] 27 (0, 0)) := by rw [hW6]; exact heap_alloc_new w5 _
    have s45 := hb5.size
    have s34 := hb4.size
    have p6 := (bb6.block _ (by omega)).trans ((hb5.block _ (by omega)).trans p4)
    have b6 := b5.trans (bb6.mono b5.size)
    have HI : Hid ((InRow 1 encS okS ByteArray.empty W6 fa5 c.fl.length c.fl ∧ InRow 2 Vl.cells Vl.ok vl0 W6 va5 c.vl.length c.vl) ∧ (InRow 1 encS okS ByteArray.empty W6 fa c.fl.length c.fl ∧ InRow 2 Vl.cells Vl.ok vl0 W6 va c.vl.length c.vl)) :=
      ⟨⟨hf5.below (Nat.le_refl _) bb6, hv5.below (Nat.le_refl _) bb6⟩, (hf4.below (Nat.le_refl _) hb5).below (Nat.le_refl _) bb6, (hv4.below (Nat.le_refl _) hb5).below (Nat.le_refl _) bb6⟩
    unfold Mg.val
    go_upto_region 5 with fail
    rw [← hW6]
    clear hW6 z0 z1 z2 z3 z4 z5 z6 z7 z8 zl crd hby
    obtain ⟨z0, z1, z2, z3, z4, z5, z6, z7, z8⟩ := cells9 p6
    obtain ⟨n0, n1, n2, n3, n4, n5, n7, n8, n9⟩ := cells9 n6
    have zl := lt_of_block p6
    have nl := lt_of_block n6
    have ct1 := told15 c fa5 fc5 va5 vc5 W6.drew HI.out.1.2 HTP.out.2
    have ct2 : ∀ W, Below W6.heap.size W6 W → _ := fun W hW => told15 c fa fc va vc W (HI.out.2.2.below (Nat.le_refl _) hW) HTP.out.2
    rw [HTP.out.1] at ct1 ct2
    unfold Mg.val at ct1 ct2
    go_cut [36] (fun v wx => v = .bool false ∧ Hid (Below W6.heap.size W6 wx))
    case first =>
      go_region_law
        (first
          | (go_simp; go_at_call 10; refine Calls.mono (same15 c fa5 fa fc5 fc va7 va8 vc7 vc8 _ ((HI.out.1.1.below (Nat.le_refl _) b67).below (Nat.le_refl _) hb8m) ((HI.out.2.1.below (Nat.le_refl _) b67).below (Nat.le_refl _) hb8m) (hI7.below (Nat.le_refl _) hb8) hI8) ?_; rintro e w9 ⟨rfl, hb9⟩)
          | (go_simp; go_at_call 11; refine Calls.mono (ct2 w7 b67) ?_; rintro e w8 ⟨va8, vc8, rfl, hI8, hb8⟩
             have hb8m : Below w7.heap.size w7 w8 := hb8)
          | (go_simp; go_at_call 11; refine Calls.mono ct1 ?_; rintro e w7 ⟨va7, vc7, rfl, hI7, hb7⟩
             have b67 : Below W6.heap.size W6 w7 := ⟨hb7.os, hb7.tape, hb7.output, hb7.size, hb7.block⟩
             have p7 := (b67.block _ zl).trans p6
             obtain ⟨o0, o1, o2, o3, o4, o5, o6, o7, o8⟩ := cells9 p7
             have ol := lt_of_block p7))
      all_goals (try go_wp2_with fail)
      all_goals go_meet
      all_goals
        exact ⟨rfl, b67.trans ((hb8m.mono b67.size).trans (hb9.mono (Nat.le_trans b67.size hb8m.size)))⟩
    case rest =>
      obtain ⟨rfl, HX⟩ := hcut
      have bX := b6.trans (HX.out.mono b6.size)
      go_wp2_with fail
      refine (ccut _).mono ?_
      rintro e w' ⟨rfl, hw'⟩
      subst w'
      go_wp2_with fail
      refine (cread _).mono ?_
      rintro e wr ⟨fr, gr, vr, ur, er, rfl, hEr, hFr, hVr, hbr⟩
      have br := bX.trans (hbr.mono bX.size)
      by_cases hr0 : r.2 = 0
      · have hok := HOK.out hr0
        rw [hr0] at hEr
        have := hEr.zero
        subst this
        obtain ⟨n, hn⟩ : ∃ n, n = r.1 := ⟨_, rfl⟩
        rw [← hn] at hok hFr hVr ⊢
        have hbn : byR n = (⟨x.data.toList.toArray⟩, 0) := by unfold byR; rw [if_pos hok.2.1, if_neg (by rw [← hok.1]; omega), ← hok.1]
        have cb : ∀ W, Below wr.heap.size wr W → _ := fun W hW => mbytes_any n fr gr vr ur W (hFr.below (Nat.le_refl _) hW) (hVr.below (Nat.le_refl _) hW) (by have := (chk_group hok.2.1).2; omega) (by have := mB_parts n hok.2.1; rw [← hok.1] at this; omega)
        rw [hbn, txt_eq] at cb
        simp only [cdV0] at cb
        unfold Mg.val at cb ⊢
        clear hok hbn hn hEr hFr hVr
        go_wp2_with fail
        refine (cb _ (below1 _ _)).mono ?_
        rintro e w8 ⟨rfl, hb8⟩
        have b8 := (br.alloc br.size _).trans (hb8.mono (by have := br.size; simp; omega))
        go_wp2_with fail
        refine (awake15_any _).mono ?_
        rintro e w9 ⟨rfl, hb9⟩
        go_wp2
        go_ret
        exact ⟨rfl, b8.trans (hb9.mono b8.size)⟩
      · obtain ⟨tr, yr, rfl⟩ := hEr.some hr0
        unfold Mg.val
        go_wp2_with fail
        refine (awake15_any _).mono ?_
        rintro e w8 ⟨rfl, hb8⟩
        go_wp2
        go_ret
        exact ⟨rfl, (br.alloc br.size _).trans (hb8.mono (by have := br.size; simp; omega))⟩
  · rw [cdV_ne _ hc] at hby
    go_wp2_with fail
    refine hby.mono ?_
    rintro e w4 ⟨rfl, hb4⟩
    have bX := b3.trans (hb4.mono b3.size)
    go_wp2_with fail
    refine (ccut _).mono ?_
    rintro e w' ⟨rfl, hw'⟩
    subst w'
    go_wp2_with fail
    refine (cread _).mono ?_
    rintro e wr ⟨fr, gr, vr, ur, er, rfl, hEr, hFr, hVr, hbr⟩
    have br := bX.trans (hbr.mono bX.size)
    by_cases hr0 : r.2 = 0
    · have hok := HOK.out hr0
      rw [hr0] at hEr
      have := hEr.zero
      subst this
      obtain ⟨n, hn⟩ : ∃ n, n = r.1 := ⟨_, rfl⟩
      rw [← hn] at hok hFr hVr ⊢
      have hbn : byR n = (⟨x.data.toList.toArray⟩, 0) := by unfold byR; rw [if_pos hok.2.1, if_neg (by rw [← hok.1]; omega), ← hok.1]
      have cb : ∀ W, Below wr.heap.size wr W → _ := fun W hW => mbytes_any n fr gr vr ur W (hFr.below (Nat.le_refl _) hW) (hVr.below (Nat.le_refl _) hW) (by have := (chk_group hok.2.1).2; omega) (by have := mB_parts n hok.2.1; rw [← hok.1] at this; omega)
      rw [hbn, txt_eq] at cb
      simp only [cdV0] at cb
      unfold Mg.val at cb ⊢
      clear hok hbn hn hEr hFr hVr
      go_wp2_with fail
      refine (cb _ (below1 _ _)).mono ?_
      rintro e w8 ⟨rfl, hb8⟩
      have b8 := (br.alloc br.size _).trans (hb8.mono (by have := br.size; simp; omega))
      go_wp2_with fail
      refine (awake15_any _).mono ?_
      rintro e w9 ⟨rfl, hb9⟩
      go_wp2
      go_ret
      exact ⟨rfl, b8.trans (hb9.mono b8.size)⟩
    · obtain ⟨tr, yr, rfl⟩ := hEr.some hr0
      unfold Mg.val
      go_wp2_with fail
      refine (awake15_any _).mono ?_
      rintro e w8 ⟨rfl, hb8⟩
      go_wp2
      go_ret
      exact ⟨rfl, (br.alloc br.size _).trans (hb8.mono (by have := br.size; simp; omega))⟩

/-! ### The row's step -/
set_option maxRecDepth 100000 in
theorem lifted (os : Os) (started : os.Started) (H : Type) (enc : TypeId × Value → H) :
    ReturnsInHanded {} Try.checked os 3 .any (Rows.msgBackSpec.pre6 enc Try.prog Try.f3 Rows.msgBackRow.domain false) (Rows.msgBackSpec.post enc Try.prog Try.f3 false true false false) := by
  refine returnsInHanded_of_change (C := Try.checked) own started (by kernel_rfl) Try.func3
    (ChangeSpec.witness6 (enc := enc) (C := Try.checked) false ⟨#[], #[.agg #[.int .i64 0, .string ByteArray.empty, .bool false, .slice none 0 0, .int .i64 0, .int .i64 0, .int .i64 0, .slice none 0 0, .string ByteArray.empty], .string ByteArray.empty], []⟩ 8 (by kernel_rfl) (by kernel_rfl) (by kernel_rfl) (by kernel_rfl)) ?_
  intro W base args ds gs before hval0 hW hcnd _
  have hval : ∀ (j : Nat) t v, Try.f3.params[j]? = some t → args[j]? = some v → Value.okWide Try.prog W .any base t v := hval0
  have hW' := hW
  obtain ⟨p, q, hA0, hV, rfl, hfz, hnd⟩ := hW
  have hA : DataW.TrodAll enc Try.prog W 0 (fun _ => true) true Try.f3.params.toList args.toList ds p := hA0
  rw [Try.params3] at hA hval
  obtain ⟨v0, vs0, d0, ds0, p0, q0, hargs, rfl, rfl, h0, r0⟩ := trodAll_cons hA
  obtain ⟨v1, vs1, d1, ds1, p1, q1, rfl, rfl, rfl, h1, r1⟩ := trodAll_cons r0
  obtain ⟨rfl, rfl, rfl⟩ := trodAll_nil r1
  obtain rfl : args = #[v0, v1] := by cases args; simp_all
  obtain ⟨rfl, rfl⟩ := trodVars_none hV
  obtain ⟨cs0, rfl, hcs0⟩ := okWide_struct Try.underlying27 (hval 0 27 v0 rfl rfl)
  have k0 := h0
  have lt0 : ∀ x ∈ p0, x.block < W.heap.size := by obtain ⟨m, hm⟩ := k0; exact DataW.trod_lt m _ _ _ hm
  obtain ⟨fuel0, hf0⟩ := h0
  obtain ⟨a0, fa0, fc0, va0, vc0, rfl, w0⟩ := ms_of hcs0 hf0
  obtain ⟨a1, rfl, rfl, rfl, w1⟩ := open_string Try.underlying9 (hval 1 9 v1 rfl rfl) h1
  clear hA0 hval0
  refine (walk a0 fa0 fc0 va0 vc0 a1 W w0 w1).mono fun e W' ⟨he, bel⟩ => ?_
  subst he
  exact ⟨_, rfl, _, _, _, [], _, [], hW', trodAll_mk1 (shut_bool Try.underlying4 _), (trodAll_cons_mk (Below.trod laidOut (by kernel_rfl) (of_decide_eq_true (by kernel_rfl)) k0 bel lt0) (trodAll_cons_mk (shut_string Try.underlying9 w1) trodAll_mk0)), rfl, bel.frame _, fun h => by cases h⟩

theorem over : Rows.msgBackRow.holds Try.pinned (OpenSpec.ofChange Rows.msgBackSpec) :=
  OpenClaim.holds_of_wide 3 Try.f3 rfl rfl rfl rfl rfl rfl rfl ⟨rfl, rfl, rfl, rfl, rfl⟩ rfl rfl rfl rfl rfl (by kernel_rfl) Try.func3 (by kernel_rfl)
    (of_decide_eq_true (by kernel_rfl)) (by unfold Func.isWrapper; first | (rw [if_pos (by decide +kernel)]; kernel_rfl) | (rw [if_neg (by decide +kernel)]; exact ⟨rfl, rfl⟩))
    (fun os started H enc _ => lifted os started H enc)

end Go.Proofs.Ytnikliadfcgjiaa.msgBack

namespace Go.Proofs.Ytnikliadfcgjiaa
/-- Proved: for every message and text, MsgBack answers true (a message that is right goes and comes back, and bytes that are read as one are its bytes). -/
theorem msgBack_holds : Rows.MsgBackSaid := msgBack.over
#print axioms msgBack_holds
end Go.Proofs.Ytnikliadfcgjiaa
