/- Proved: for every text and number, BagFull answers true (as many packets as there may be are sent, and no more; when one is taken there is room for one again).
  The frame is the guide's own shell (proof-skeleton.mjs) at this function; the walk and all ahead of it are mine. -/
import Derived.Test.YtcclfibojmfjgaaRows
import Derived.Test.YtcclfibojmfjgaaBagAwake
import Derived.WalkKit
import Derived.WalkLawsBesides
import Derived.ProofKit
import Derived.OpenShut
import Derived.ShutString
namespace Go.Proofs.Ytcclfibojmfjgaa.bagFull
open Go.ChangeShapes Go.WideShapes Go.ChangeAt Go.RowKit
open Go.ChangeMaps (open_string shut_string)
set_option linter.unusedVariables false      -- a walk need not use every 'w<i>' (that an integer argument fits its kind)

theorem own : ownKnob Try.prog.godebug = none := by kernel_rfl


def Fl (lo n : Nat) (g : Bg) : Prop := g.ok ∧ g.ps.length = n ∧ g.last = (lo + n : Nat) ∧ ∀ j, j < n → (g.ps.getD j pk0).id = (lo + j + 1 : Nat)
theorem fl_zero : Fl 0 0 bg0 := ⟨bg0_ok, rfl, rfl, fun j hj => absurd hj (Nat.not_lt_zero _)⟩
theorem fl_add {lo n : Nat} {g : Bg} (h : Fl lo n g) (hn : n < 4000) (s : ByteArray) (hs : s.size ≤ 2000) : Fl lo (n + 1) (g.add 0 1 s) := by
  obtain ⟨a, b, c, d⟩ := h
  refine ⟨a.add 0 1 s hs (by omega) (i64_small _ (by decide) (by decide)) (i64_small _ (by decide) (by decide)), ?_, ?_, fun j hj => ?_⟩
  · show (g.ps ++ [_]).length = _; simp [b]
  · show g.last + 1 = _; rw [c]; simp; omega
  · show ((g.ps ++ [_]).getD j pk0).id = _
    by_cases e : j < n
    · rw [List.getD_eq_getElem?_getD, List.getElem?_append_left (by omega), ← List.getD_eq_getElem?_getD]; exact d j e
    · obtain rfl : j = n := by omega
      rw [List.getD_eq_getElem?_getD, List.getElem?_append_right (by omega), b]
      simp [c]
theorem fl_del {lo n : Nat} {g : Bg} (h : Fl lo (n + 1) g) : Fl (lo + 1) n (g.del 0) := by
  obtain ⟨a, b, c, d⟩ := h
  refine ⟨a.del 0, ?_, ?_, fun j hj => ?_⟩
  · show (g.ps.eraseIdx 0).length = _
    rw [List.length_eraseIdx_of_lt (by omega), b]; rfl
  · show g.last = _; rw [c]; simp; omega
  · show ((g.ps.eraseIdx 0).getD j pk0).id = _
    rw [List.eraseIdx_zero, List.getD_eq_getElem?_getD, List.getElem?_tail, ← List.getD_eq_getElem?_getD, d (j + 1) (by omega)]
    congr 1; omega
/-- The bag of the walk. -/
def St (lo n : Nat) (w wr : World) : Prop := ∃ (g : Bg) (v : Value), Fl lo n g ∧ BagAt w.heap.size wr w.heap.size v g ∧ Below w.heap.size w wr
theorem st_send {lo n : Nat} {w wr : World} (h : St lo n w wr) (hn : n < 4000) (hl : lo ≤ 100) (s : ByteArray) (hs : s.size ≤ 2000) :
    Calls Try.prog 8 #[.pointer (some ⟨w.heap.size, 0, none⟩), .int .i64 0, .int .i64 1, .string s] wr fun e w' => (∃ x, e = .returned (.tuple #[.int .i64 x, .nilIface])) ∧ St lo (n + 1) w w' := by
  obtain ⟨g, v, hF, hA, hb⟩ := h
  refine (send_ok _ _ v g 0 1 s wr hA hb.size hs (by rw [hF.2.1]; exact hn) hF.1.lo (by rw [hF.2.2.1]; omega)).mono ?_
  rintro e w' ⟨rfl, v', hA', hK⟩
  exact ⟨⟨_, rfl⟩, _, v', fl_add hF hn s hs, hA', hK.belowB hA hb hb.size⟩
theorem st_full {lo n : Nat} {w wr : World} (h : St lo n w wr) (hn : 4000 ≤ n) (s : ByteArray) (hs : s.size ≤ 2000) :
    Calls Try.prog 8 #[.pointer (some ⟨w.heap.size, 0, none⟩), .int .i64 0, .int .i64 1, .string s] wr fun e w' => e = .returned (.tuple #[.int .i64 0, .iface 36 (.int .i64 4)]) ∧ St lo n w w' := by
  obtain ⟨g, v, hF, hA, hb⟩ := h
  refine (send_full _ _ v g 0 1 s wr hA hs (by rw [hF.2.1]; exact hn)).mono ?_
  rintro e w' ⟨rfl, rfl⟩
  exact ⟨rfl, g, v, hF, hA, hb⟩
theorem st_copy {n : Nat} {w wr : World} (h : St 0 n w wr) (hn : 4000 ≤ n) :
    Calls Try.prog 12 #[.pointer (some ⟨w.heap.size, 0, none⟩), .int .i64 1] wr fun e w' => e = .returned (.tuple #[.int .i64 0, .iface 36 (.int .i64 4)]) ∧ St 0 n w w' := by
  obtain ⟨g, v, hF, hA, hb⟩ := h
  refine (copy_full _ _ v g 1 0 wr hA hF.1 (by rw [hF.2.1]; omega) (by rw [hF.2.2.2 0 (by omega)]; rfl) (by rw [hF.2.1]; exact hn)).mono ?_
  rintro e w' ⟨rfl, hb'⟩
  exact ⟨rfl, g, v, hF, hA.below hb', hb.trans (hb'.mono hb.size)⟩
theorem st_take {lo n : Nat} {w wr : World} (h : St lo (n + 1) w wr) :
    Calls Try.prog 9 #[.pointer (some ⟨w.heap.size, 0, none⟩), .int .i64 ((lo : Int) + 1)] wr fun e w' => (∃ a b c s, e = .returned (.tuple #[.agg #[.int .i64 a, .int .i64 b, .int .i64 c, .string s], .nilIface])) ∧ St (lo + 1) n w w' := by
  obtain ⟨g, v, hF, hA, hb⟩ := h
  refine (take_hit _ _ v g _ 0 wr hA hF.1 (by rw [hF.2.1]; omega) (by rw [hF.2.2.2 0 (by omega)]; simp)).mono ?_
  rintro e w' ⟨rfl, v', hA', hK⟩
  exact ⟨⟨_, _, _, _, rfl⟩, _, v', fl_del hF, hA', hK.belowB hA hb hb.size⟩
theorem St.alloc {lo n : Nat} {w wr : World} (h : St lo n w wr) (o : Obj) : St lo n w (wr.alloc o) := by
  obtain ⟨g, v, hF, hA, hb⟩ := h
  exact ⟨g, v, hF, hA.alloc o, hb.alloc hb.size o⟩
theorem St.below {lo n : Nat} {w wr w' : World} (h : St lo n w wr) (hb' : Below wr.heap.size wr w') : St lo n w w' := by
  obtain ⟨g, v, hF, hA, hb⟩ := h
  exact ⟨g, v, hF, hA.below hb', hb.trans (hb'.mono hb.size)⟩
theorem St.bel {lo n : Nat} {w wr : World} (h : St lo n w wr) : Below w.heap.size w wr := h.choose_spec.choose_spec.2.2
theorem st_len {lo n : Nat} {w wr : World} (h : St lo n w wr) :
    Calls Try.prog 13 #[.pointer (some ⟨w.heap.size, 0, none⟩)] wr fun e w' => e = .returned (.int .i64 n) ∧ w' = wr := by
  obtain ⟨g, v, hF, hA, hb⟩ := h
  have := len_any _ _ v g wr hA
  rw [hF.2.1] at this
  exact this
/-! ### STEP 1: THE WALK: the Go text returns true. 'Grown w w'': the world has at most new blocks (Derived/RowKit3.lean). Part the cases AHEAD of 'go_enter' where a test parts the walk; take each callee by a contract of your own. -/
set_option maxRecDepth 100000 in
set_option maxHeartbeats 2000000 in
theorem walk (a0 : ByteArray) (a1 : Int) (w0 : a0.size ≤ maxLen) (w1 : (Lit.int .i64 a1).wf = true) (w : World) :
    Calls Try.prog 4 #[.string a0, .int .i64 a1] w fun e w' => e = .returned (.bool true) ∧ Below w.heap.size w w' := by
  clear w1
  unfold maxLen at w0
  by_cases hc : a0.size ≤ 20 ∧ 0 ≤ a1 ∧ a1 ≤ 20
  · obtain ⟨hs, ht0, ht1⟩ := hc
    obtain ⟨n, rfl⟩ : ∃ n : Nat, a1 = n := ⟨a1.toNat, by omega⟩
    have hn : n ≤ 20 := by omega
    go_enter Try.func4, Try.ntmps4
    go_wp2
    go_loopw [6] (fun y wr => ∃ i : Nat, y = .int .i64 i ∧ i ≤ 4000 ∧ Hid (St 0 i w wr)) (fun y _ => 4000 - (intOf y).toNat)
    case atStart => exact ⟨0, rfl, Nat.zero_le _, (⟨bg0, _, fl_zero, BagAt.new w _ (Nat.le_refl _), (Below.refl _ _).alloc (Nat.le_refl _) _⟩ : St 0 0 w _)⟩
    case round =>
      obtain ⟨i, rfl, hi, H⟩ := hrel
      by_cases hlt : i < 4000
      · go_wp2_with fail
        refine (st_send H.out hlt (by omega) a0 (by omega)).mono ?_
        rintro e w2 ⟨⟨x, rfl⟩, h2⟩
        have H2 : Hid (St 0 (i + 1) w w2) := h2
        clear h2
        go_wp2
        go_roundw
        case rel => exact ⟨i + 1, by go_num, by omega, H2⟩
        case measure => simp [intOf]; omega
      · obtain rfl : i = 4000 := by omega
        go_wp2_with fail
        refine (st_full H.out (Nat.le_refl _) a0 (by omega)).mono ?_
        rintro e w2 ⟨rfl, h2⟩
        have H2 : Hid (St 0 4000 w w2) := h2
        clear h2 H
        go_wp2_with fail
        refine (st_copy H2.out (Nat.le_refl _)).mono ?_
        rintro e w3 ⟨rfl, h3⟩
        have H3 : Hid (St 0 4000 w w3) := h3
        clear h3 H2
        go_wp2
        go_loopw [13] (fun y wr => ∃ i : Nat, y = .int .i64 i ∧ i ≤ n ∧ Hid (St i (4000 - i) w wr)) (fun y _ => n - (intOf y).toNat)
        case atStart => exact ⟨0, rfl, Nat.zero_le _, H3⟩
        case round =>
          obtain ⟨j, rfl, hj, H4⟩ := hrel
          by_cases hlt2 : j < n
          · have h4 : St j ((4000 - (j + 1)) + 1) w wr := by
              have := H4.out
              rwa [show 4000 - j = 4000 - (j + 1) + 1 by omega] at this
            have H5 : Hid (St j ((4000 - (j + 1)) + 1) w wr) := h4
            clear h4 H4
            go_wp2_with fail
            refine (st_take H5.out).mono ?_
            rintro e w5 ⟨⟨x, y, z, s, rfl⟩, h6⟩
            have H6 : Hid (St (j + 1) (4000 - (j + 1)) w w5) := h6
            clear h6 H5
            go_wp2
            go_roundw
            case rel => exact ⟨j + 1, by go_num, by omega, (H6.out.alloc _ : St (j + 1) (4000 - (j + 1)) w _)⟩
            case measure => simp [intOf]; omega
          · obtain rfl : j = n := by omega
            go_wp2
            go_loopw [16] (fun y wr => ∃ i : Nat, y = .int .i64 i ∧ i ≤ j ∧ Hid (St j (4000 - j + i) w wr)) (fun y _ => j - (intOf y).toNat)
            case atStart => exact ⟨0, rfl, Nat.zero_le _, H4⟩
            case round =>
              obtain ⟨k, rfl, hk, H5⟩ := hrel
              by_cases hlt3 : k < j
              · go_wp2_with fail
                refine (st_send H5.out (by omega) (by omega) a0 (by omega)).mono ?_
                rintro e w5 ⟨⟨x, rfl⟩, h6⟩
                have H6 : Hid (St j (4000 - j + (k + 1)) w w5) := h6
                clear h6 H5
                go_wp2
                go_roundw
                case rel => exact ⟨k + 1, by go_num, by omega, H6⟩
                case measure => simp [intOf]; omega
              · obtain rfl : k = j := by omega
                have h6 : St k 4000 w wr := by
                  have := H5.out
                  rwa [show 4000 - k + k = 4000 by omega] at this
                have H6 : Hid (St k 4000 w wr) := h6
                clear h6 H5
                go_wp2_with fail
                refine (st_full H6.out (Nat.le_refl _) a0 (by omega)).mono ?_
                rintro e w7 ⟨rfl, h7⟩
                have H7 : Hid (St k 4000 w w7) := h7
                clear h7 H6
                go_wp2_with (first
                  | (go_at_call 11; refine (bawake_any _).mono ?_; rintro e w8 ⟨rfl, hb8⟩)
                  | (go_at_call 10; refine (is_same 4 _).mono ?_; rintro e w' ⟨rfl, rfl⟩)
                  | (go_at_call 13; refine (st_len (H7.out.below hb8)).mono ?_; rintro e w' ⟨rfl, rfl⟩))
                go_ret
                exact ⟨rfl, (H7.out.below hb8).bel⟩
  · have hc' : 20 < a0.size ∨ a1 < 0 ∨ 20 < a1 := by omega
    clear hc
    rcases hc' with hc | hc | hc
    all_goals
      go_enter Try.func4, Try.ntmps4
      go_wp2_with (go_at_call 11; refine (bawake_any _).mono ?_; rintro e w4 ⟨rfl, hb4⟩)
      all_goals
        go_ret
        exact ⟨rfl, hb4⟩

/-! ### THE ROW's STEP: WRITTEN OUT: LEAVE IT -/
set_option maxRecDepth 100000 in
theorem lifted (os : Os) (started : os.Started) (H : Type) (enc : TypeId × Value → H) :
    ReturnsInHanded {} Try.checked os 4 .any (Rows.bagFullSpec.pre6 enc Try.prog Try.f4 Rows.bagFullRow.domain false) (Rows.bagFullSpec.post enc Try.prog Try.f4 false true false false) := by
  refine returnsInHanded_of_change (C := Try.checked) own started (by kernel_rfl) Try.func4
    (ChangeSpec.witness6 (enc := enc) (C := Try.checked) false ⟨#[], #[.string ByteArray.empty, .int .i64 0], []⟩ 8 (by kernel_rfl) (by kernel_rfl) (by kernel_rfl) (by kernel_rfl)) ?_
  intro W base args ds gs before hval0 hW hcnd _
  have hval : ∀ (j : Nat) t v, Try.f4.params[j]? = some t → args[j]? = some v → Value.okWide Try.prog W .any base t v := hval0
  have hW' := hW
  obtain ⟨p, q, hA0, hV, rfl, hfz, hnd⟩ := hW
  have hA : DataW.TrodAll enc Try.prog W 0 (fun _ => true) true Try.f4.params.toList args.toList ds p := hA0
  rw [Try.params4] at hA hval
  obtain ⟨v0, vs0, d0, ds0, p0, q0, hargs, rfl, rfl, h0, r0⟩ := trodAll_cons hA
  obtain ⟨v1, vs1, d1, ds1, p1, q1, rfl, rfl, rfl, h1, r1⟩ := trodAll_cons r0
  obtain ⟨rfl, rfl, rfl⟩ := trodAll_nil r1
  obtain rfl : args = #[v0, v1] := by cases args; simp_all
  obtain ⟨rfl, rfl⟩ := trodVars_none hV
  obtain ⟨a0, rfl, rfl, rfl, w0⟩ := open_string Try.underlying9 (hval 0 9 v0 rfl rfl) h0
  obtain ⟨a1, rfl, rfl, rfl, w1⟩ := open_int Try.underlying3 (hval 1 3 v1 rfl rfl) h1
  clear hA0 hval0
  simp only [List.append_nil] at hW'
  refine (walk a0 a1 w0 w1 W).mono fun e W' ⟨he, bel⟩ => ?_
  subst he
  exact ⟨_, rfl, _, _, _, [], [], [], hW', trodAll_mk1 (shut_bool Try.underlying4 _), (trodAll_cons_mk (shut_string Try.underlying9 w0) (trodAll_cons_mk (shut_int Try.underlying3 w1) trodAll_mk0)), rfl, bel.frame _, fun h => by cases h⟩

theorem over : Rows.bagFullRow.holds Try.pinned (OpenSpec.ofChange Rows.bagFullSpec) :=
  OpenClaim.holds_of_wide 4 Try.f4 rfl rfl rfl rfl rfl rfl rfl ⟨rfl, rfl, rfl, rfl, rfl⟩ rfl rfl rfl rfl rfl (by kernel_rfl) Try.func4 (by kernel_rfl)
    (of_decide_eq_true (by kernel_rfl)) (by unfold Func.isWrapper; first | (rw [if_pos (by decide +kernel)]; kernel_rfl) | (rw [if_neg (by decide +kernel)]; exact ⟨rfl, rfl⟩))
    (fun os started H enc _ => lifted os started H enc)

end Go.Proofs.Ytcclfibojmfjgaa.bagFull

namespace Go.Proofs.Ytcclfibojmfjgaa
/-- Proved: for every text and number, BagFull answers true (as many packets as there may be are sent, and no more; when one is taken there is room for one again). -/
theorem bagFull_holds : Rows.BagFullSaid := bagFull.over
#print axioms bagFull_holds
end Go.Proofs.Ytcclfibojmfjgaa
