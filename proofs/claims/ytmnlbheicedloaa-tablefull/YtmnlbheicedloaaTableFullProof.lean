/- Proved: for every two numbers, TableFull answers true (a table takes so many entries, and no more; one that is there already is still taken; when one goes there is room).
  The frame is the guide's own shell (proof-skeleton.mjs) at this function; the walk and all ahead of it are mine. -/
import Derived.Test.YtmnlbheicedloaaRows
import Derived.Test.YtmnlbheicedloaaTbFull
import Derived.Test.YtmnlbheicedloaaIsCode
import Derived.Deep.CutBlock
import Derived.Deep.DeepCutAuto
import Derived.Deep.LoopGhost
import Derived.WalkKit
import Derived.WalkLawsBesides
import Derived.ProofKit
import Derived.OpenShut
import Derived.ShutString
namespace Go.Proofs.Ytmnlbheicedloaa.tableFull
open Go.ChangeShapes Go.WideShapes Go.ChangeAt Go.RowKit
open Go.ChangeMaps (open_string shut_string)
set_option linter.unusedVariables false      -- a walk need not use every 'w<i>' (that an integer argument fits its kind)

theorem own : ownKnob Try.prog.godebug = none := by kernel_rfl


theorem ownT_asc {B : Nat} {w0 w : World} {r : Nat} {X : List Ep} (h : OwnT B w0 w r X) : Asc ltK (X.map Ep.key) := by
  obtain ⟨v, hv⟩ := h.tab
  exact hv.asc
/-! ### STEP 1: THE WALK: the Go text returns true. 'Grown w w'': the world has at most new blocks (Derived/RowKit3.lean). Part the cases AHEAD of 'go_enter' where a test parts the walk; take each callee by a contract of your own. -/
set_option maxRecDepth 100000 in
set_option maxHeartbeats 20000000 in
theorem walk (a0 : Int) (a1 : Int) (w0 : (Lit.int .i64 a0).wf = true) (w1 : (Lit.int .i64 a1).wf = true) (w : World) :
    Calls Try.prog 4 #[.int .i64 a0, .int .i64 a1] w fun e w' => e = .returned (.bool true) ∧ Below w.heap.size w w' := by
  clear w0 w1
  by_cases hc : 0 ≤ a0 ∧ a0 ≤ 20 ∧ 0 ≤ a1 ∧ a1 ≤ 1000
  · obtain ⟨g0, g1, g2, g3⟩ := hc
    obtain ⟨n, rfl⟩ : ∃ n : Nat, a0 = n := ⟨a0.toNat, by omega⟩
    have hn : n ≤ 20 := by omega
    have G0 : Hid (a1 < 2000) := (by omega : a1 < 2000)
    have H0 : Hid _ := OwnT.new w
    go_enter Try.func4, Try.ntmps4
    go_wp2
    go_loopw [6] (fun y wr => ∃ (i : Nat) (X : List Ep), y = .int .i64 i ∧ i ≤ 400 ∧ Hid (OwnT w.heap.size w wr w.heap.size X ∧ F1 i X)) (fun y _ => 400 - (intOf y).toNat)
    case atStart => exact ⟨0, [], rfl, Nat.zero_le _, (⟨H0.out, F1.nil⟩ : _ ∧ F1 _ _)⟩
    case round =>
      obtain ⟨i, X, rfl, hi, H⟩ := hrel
      clear H0
      by_cases hlt : i < 400
      · have hl : (i : Int) < 400 := by omega
        have hl0 : (0 : Int) ≤ (i : Int) := by omega
        go_wp2_with fail
        refine (H.out.1.put sg (2000 + (i : Int)) none 0 0 false (i : Int) [] ⟨rfl, .inl rfl⟩ (by omega) (.inr (by rw [H.out.2.len]; omega))).mono ?_
        rintro e w2 ⟨rfl, x2, hx2, hT2, _⟩
        have H2 : Hid (OwnT w.heap.size w w2 w.heap.size (putE X x2) ∧ F1 (i + 1) (putE X x2)) := ⟨hT2, H.out.2.put hx2.1 hx2.2.1 (ownT_asc hT2)⟩
        clear hx2 hT2 H
        go_wp2
        go_roundw
        case rel => exact ⟨i + 1, _, by go_num, by omega, H2⟩
        case measure => simp [intOf]; omega
      · obtain rfl : i = 400 := by omega
        clear hlt hi
        go_wp2_with fail
        refine (H.out.1.full sg a1 none 0 0 false 0 [] ⟨rfl, .inl rfl⟩ (by omega) (H.out.2.no (.inl G0.out)) (by rw [H.out.2.len]; omega)).mono ?_
        rintro e w3 ⟨rfl, hT3⟩
        have H3 : Hid (OwnT w.heap.size w w3 w.heap.size X ∧ F1 400 X) := ⟨hT3, H.out.2⟩
        clear H hT3
        go_wp2_with fail
        refine (H3.out.1.put sg 2000 none 0 0 false 500 [] ⟨rfl, .inl rfl⟩ (by omega) (.inl H3.out.2.has)).mono ?_
        rintro e w4 ⟨rfl, x4, hx4, hT4, _⟩
        obtain ⟨m, hm⟩ : ∃ m, m = n - 1 := ⟨_, rfl⟩
        have hm2 : m ≤ 19 := by omega
        have H4 : Hid (OwnT w.heap.size w w4 w.heap.size (putE X x4) ∧ F2 0 (400 - m) ((putE X x4).filter (fun y => !pastB n y)) ∧ ((putE X x4).filter (pastB n)).length = m) := ⟨hT4, (by rw [hm]; exact H3.out.2.left hx4.1 hx4.2.1 (ownT_asc hT4) n hn), by rw [hm]; exact H3.out.2.past hx4.1 hx4.2.1 (ownT_asc hT4) n hn⟩
        have HM : Hid (m = n - 1) := hm
        clear H3 hx4 hT4 hm
        go_wp2_with fail
        refine (H4.out.1.expire (n : Int)).mono ?_
        rintro e w5 ⟨rfl, hT5⟩
        rw [H4.out.2.2]
        generalize hY : (putE X x4).filter (fun y => !pastB n y) = Y at H4 hT5
        have H5 : Hid (OwnT w.heap.size w w5 w.heap.size Y ∧ F2 0 (400 - m) Y) := ⟨hT5, H4.out.2.1⟩
        clear H4 hT5 hY
        go_upto_region 12 with fail
        go_cut [10] (fun v wx => v = .int .i64 (m : Int) ∧ w5 = wx)
        case first =>
          go_wp2_with fail
          go_meet
          refine ⟨congrArg (Value.int .i64) ?_, rfl⟩
          have := HM.out
          omega
        case rest =>
          obtain ⟨rfl, hwx⟩ := hcut
          subst hwx
          go_wp2
          go_loopw [11] (fun y wr => ∃ (i : Nat) (Y : List Ep), y = .int .i64 i ∧ i ≤ m ∧ Hid (OwnT w.heap.size w wr w.heap.size Y ∧ F2 i (400 - m) Y)) (fun y _ => 20 - (intOf y).toNat)
          case atStart => exact ⟨0, Y, rfl, Nat.zero_le _, H5⟩
          case round =>
            obtain ⟨i, Y, rfl, hi, H⟩ := hrel
            clear H5
            by_cases hlt : i < m
            · have hl : (i : Int) < (m : Int) := by omega
              have hl0 : (0 : Int) ≤ (i : Int) := by omega
              go_wp2_with fail
              refine (H.out.1.put sh (i : Int) none 0 0 false 0 [] ⟨rfl, .inl rfl⟩ (by omega) (.inr (by rw [H.out.2.len]; omega))).mono ?_
              rintro e w2 ⟨rfl, x2, hx2, hT2, _⟩
              have H2 : Hid (OwnT w.heap.size w w2 w.heap.size (putE Y x2) ∧ F2 (i + 1) (400 - m) (putE Y x2)) := ⟨hT2, H.out.2.put hx2.1 (ownT_asc hT2)⟩
              clear hx2 hT2 H
              go_wp2
              go_roundw
              case rel => exact ⟨i + 1, _, by go_num, by omega, H2⟩
              case measure => simp [intOf]; omega
            · obtain rfl : i = m := by omega
              clear hlt hi
              have hlen : Y.length = 400 := by have := H.out.2.len; omega
              have HL : Hid _ := hlen
              clear hlen
              go_wp2_with fail
              refine (H.out.1.full sh 5000 none 0 0 false 0 [] ⟨rfl, .inl rfl⟩ (by omega) (H.out.2.no (by omega)) (by rw [HL.out]; omega)).mono ?_
              rintro e w7 ⟨rfl, hT7⟩
              have H7 : Hid (OwnT w.heap.size w w7 w.heap.size Y) := hT7
              clear H hT7
              go_wp2_with (first
                | (go_at_call 14; refine (awake13_any _).mono ?_; rintro e w8 ⟨rfl, hb8⟩; have H8 : Hid (OwnT w.heap.size w w8 w.heap.size Y) := H7.out.below hb8; clear hb8)
                | (go_at_call 16; refine (is_code 4 _).mono ?_; rintro e w9 ⟨rfl, hw9⟩; subst w9)
                | (go_at_call 10; refine (H8.out.len).mono ?_; rintro e w6 ⟨rfl, hw6⟩; subst w6; rw [HL.out]))
              go_ret
              exact ⟨ret_b (by simp), H8.out.bel⟩
  · have hor : a0 < 0 ∨ (¬ a0 < 0 ∧ a0 > 20) ∨ (¬ a0 < 0 ∧ ¬ a0 > 20 ∧ a1 < 0) ∨ (¬ a0 < 0 ∧ ¬ a0 > 20 ∧ ¬ a1 < 0 ∧ a1 > 1000) := by omega
    clear hc
    rcases hor with h1 | ⟨h1, h2⟩ | ⟨h1, h2, h3⟩ | ⟨h1, h2, h3, h4⟩
    all_goals
      go_enter Try.func4, Try.ntmps4
      go_wp2_with (go_at_call 14; refine (awake13_any _).mono ?_; rintro e w8 ⟨rfl, hb8⟩)
      go_ret
      exact ⟨rfl, hb8⟩

/-! ### THE ROW's STEP: WRITTEN OUT: LEAVE IT -/
set_option maxRecDepth 100000 in
theorem lifted (os : Os) (started : os.Started) (H : Type) (enc : TypeId × Value → H) :
    ReturnsInHanded {} Try.checked os 4 .any (Rows.tableFullSpec.pre6 enc Try.prog Try.f4 Rows.tableFullRow.domain false) (Rows.tableFullSpec.post enc Try.prog Try.f4 false true false false) := by
  refine returnsInHanded_of_change (C := Try.checked) own started (by kernel_rfl) Try.func4
    (ChangeSpec.witness6 (enc := enc) (C := Try.checked) false ⟨#[], #[.int .i64 0, .int .i64 0], []⟩ 8 (by kernel_rfl) (by kernel_rfl) (by kernel_rfl) (by kernel_rfl)) ?_
  intro W base args ds gs before hval0 hW hcnd _
  have hval : ∀ (j : Nat) t v, Try.f4.params[j]? = some t → args[j]? = some v → Value.okWide Try.prog W .any base t v := hval0
  have hW' := hW
  obtain ⟨p, q, hA0, hV, rfl, hfz, hnd⟩ := hW
  have hA : DataW.TrodAll enc Try.prog W 0 (fun _ => true) true Try.f4.params.toList args.toList ds p := hA0
  rw [Try.params4] at hA hval
  obtain ⟨v0, vs0, d0, ds0, p0, q0, hargs, rfl, rfl, h0, r0⟩ := trodAll_cons hA
  obtain ⟨v1, vs1, d1, ds1, p1, q1, rfl, rfl, rfl, h1, r1⟩ := trodAll_cons r0
  obtain ⟨rfl, rfl, rfl⟩ := trodAll_nil r1
  obtain rfl : args = #[v0, v1] := by cases args; simp_all
  obtain ⟨rfl, rfl⟩ := trodVars_none hV
  obtain ⟨a0, rfl, rfl, rfl, w0⟩ := open_int Try.underlying3 (hval 0 3 v0 rfl rfl) h0
  obtain ⟨a1, rfl, rfl, rfl, w1⟩ := open_int Try.underlying3 (hval 1 3 v1 rfl rfl) h1
  clear hA0 hval0
  simp only [List.append_nil] at hW'
  refine (walk a0 a1 w0 w1 W).mono fun e W' ⟨he, bel⟩ => ?_
  subst he
  exact ⟨_, rfl, _, _, _, [], [], [], hW', trodAll_mk1 (shut_bool Try.underlying4 _), (trodAll_cons_mk (shut_int Try.underlying3 w0) (trodAll_cons_mk (shut_int Try.underlying3 w1) trodAll_mk0)), rfl, bel.frame _, fun h => by cases h⟩

theorem over : Rows.tableFullRow.holds Try.pinned (OpenSpec.ofChange Rows.tableFullSpec) :=
  OpenClaim.holds_of_wide 4 Try.f4 rfl rfl rfl rfl rfl rfl rfl ⟨rfl, rfl, rfl, rfl, rfl⟩ rfl rfl rfl rfl rfl (by kernel_rfl) Try.func4 (by kernel_rfl)
    (of_decide_eq_true (by kernel_rfl)) (by unfold Func.isWrapper; first | (rw [if_pos (by decide +kernel)]; kernel_rfl) | (rw [if_neg (by decide +kernel)]; exact ⟨rfl, rfl⟩))
    (fun os started H enc _ => lifted os started H enc)

end Go.Proofs.Ytmnlbheicedloaa.tableFull

namespace Go.Proofs.Ytmnlbheicedloaa
/-- Proved: for every two numbers, TableFull answers true (a table takes so many entries, and no more; one that is there already is still taken; when one goes there is room). -/
theorem tableFull_holds : Rows.TableFullSaid := tableFull.over
#print axioms tableFull_holds
end Go.Proofs.Ytmnlbheicedloaa
