/- Proved: for every list of pairs, WindowOnce answers true (each event is New once at most, whatever comes in between; of at most 100 events).
  The frame is the guide's own shell (proof-skeleton.mjs) at this function; the walk and all ahead of it are mine. -/
import Derived.Test.YtmnlbheicedloabRows
import Derived.Test.YtmnlbheicedloabWiOnce
import Derived.Deep.QuietTactic
import Derived.BigQuiet
import Derived.Deep.RegionWith
import Derived.Deep.CutBlock
import Derived.Deep.DeepCutAuto
import Derived.Deep.LoopGhost
import Derived.WalkKit
import Derived.WalkLawsBesides
import Derived.ProofKit
import Derived.OpenShut
import Derived.ShutString
import Derived.ChangeOld
import Derived.Below
namespace Go.Proofs.Ytmnlbheicedloab.windowOnce
open Go.ChangeShapes Go.WideShapes Go.ChangeAt Go.RowKit
open Go.ChangeMaps (open_string shut_string)
set_option linter.unusedVariables false

theorem own : ownKnob Try.prog.godebug = none := by kernel_rfl
theorem laidOut : laidOutB Try.prog = true := by kernel_rfl


theorem bcellW {B : Nat} {w wr : World} (h : Below B w wr) (b o : Nat) (hb : b < B) : wr.cell? ⟨b, o, none⟩ = w.cell? ⟨b, o, none⟩ := h.cell (p := ⟨b, o, none⟩) hb
theorem pair_at {w wr : World} {a : Option Addr} {len : Nat} {t : List (Int × Int)} (h : InRow 2 encP okP (0, 0) w a len t) (hB : Below w.heap.size w wr) {i : Nat} (hi : i < len) :
    ∃ b o p n, a = some ⟨b, o, none⟩ ∧ b < wr.heap.size ∧ b < w.heap.size ∧ wr.cell? ⟨b, o + i * 2, none⟩ = some (.int .i64 p) ∧ wr.cell? ⟨b, o + i * 2 + 1, none⟩ = some (.int .i64 n) := by
  obtain ⟨b, o, ha, hb, hcells⟩ := h.2.2.resolve_left (by omega)
  obtain ⟨hok, hc⟩ := hcells i hi
  have s0 := (bcellW hB b (o + i * 2 + 0) hb).trans (hc 0 (by omega))
  have s1 := (bcellW hB b (o + i * 2 + 1) hb).trans (hc 1 (by omega))
  exact ⟨b, o, _, _, ha, by have := hB.size; omega, hb, s0, s1⟩
theorem cell_onc {w0 w w' : World} {g g' : Option Nat} {v v' : Value} {L F L' F' : List (Int × Int)} {b o : Nat} {x : Value} (h : Onc w0 w g v L F) (h' : Onc w0 w' g' v' L' F') (hb : b < w0.heap.size) (hc : w.cell? ⟨b, o, none⟩ = some x) : w'.cell? ⟨b, o, none⟩ = some x := by
  rw [bcellW h'.bel b o hb, ← bcellW h.bel b o hb]; exact hc
/-! ### STEP 1: the walk -/
set_option maxRecDepth 100000 in
set_option maxHeartbeats 2000000 in
theorem walk (a0 : Option Addr) (len0 cap0 : Nat) (t0 : List (Int × Int)) (w : World) (w0 : InRow 2 encP okP ((0, 0) : Int × Int) w a0 len0 t0) :
    Calls Try.prog 3 #[.slice a0 len0 cap0] w fun e w' => e = .returned (.bool true) ∧ Below w.heap.size w w' := by
  have hmx0 := w0.2.1
  have HX : Hid (InRow 2 encP okP (0, 0) w a0 len0 t0) := w0
  clear w0
  obtain ⟨i0, hi, hz0, hz1, hz2⟩ := winfo Try.infoP2
  go_enter Try.func3, Try.ntmps3
  go_wp2
  go_loopw [4, 5] (fun x y wr => ∃ (i m c : Nat) (a : Option Addr) (g : Option Nat) (L : List (Int × Int)), y = .int .i64 i ∧ x = .slice a m c ∧ m = L.length ∧ m ≤ i ∧ i ≤ len0 ∧ i ≤ 100 ∧ Hid (Onc w wr g (.slice a m c) L L)) (fun _ y _ => 100 - (intOf y).toNat)
  case atStart => exact ⟨0, 0, 0, _, _, [], rfl, rfl, rfl, Nat.zero_le _, Nat.zero_le _, Nat.zero_le _, (Onc.new w : Onc _ _ _ _ _ _)⟩
  case round =>
    obtain ⟨i, m, c, a, g, L, rfl, rfl, hmL, hmi, hil, hi100, H⟩ := hrel
    have HM : Hid (m = L.length) := hmL
    clear hmL
    by_cases hlt : i < len0 ∧ i < 100
    · obtain ⟨hl1, hl2⟩ := hlt
      have hi0 : (0 : Int) ≤ (i : Int) := Int.natCast_nonneg _
      have hi1 : (i : Int) < (len0 : Int) := by omega
      have hi2 : (i : Int) < 100 := by omega
      obtain ⟨b, o, p, n, ha, hb', hb, s0, s1⟩ := pair_at HX.out H.out.bel hl1
      subst ha
      by_cases hE : EvOk p n
      · have HE : Hid (EvOk p n) := hE
        clear hE
        go_upto_region 6 with fail
        go_cut [6, 7] (fun x y wx => x = .int .i64 (whatL L p n) ∧ y = .nilIface ∧ ∃ g', Hid (Onc w wx g' (.slice a m c) (comeL L p n) L))
        case first =>
          go_region_with ((go_at_call 8; refine (H.out.drew.come p n HE.out).mono ?_; rintro e w1 ⟨rfl, g1, hw1⟩; have H1 : Hid _ := hw1; clear hw1))
          all_goals (try go_wp2_with fail)
          all_goals go_meet
          all_goals exact ⟨rfl, rfl, g1, H1⟩
        case rest =>
          obtain ⟨rfl, rfl, g1, H1⟩ := hcut
          rename World => w1
          have t0 := cell_onc H.out H1.out hb s0
          have t1 := cell_onc H.out H1.out hb s1
          have hb1 : b < w1.heap.size := by have := H1.out.bel.size; omega
          clear s0 s1 hb'
          have hk := whatL_range L p n
          by_cases hnew : whatL L p n = 1
          · have HN : Hid ((p, n) ∉ L ∧ comeL L p n = L ++ [(p, n)]) := ⟨whatL_new hnew, comeL_new hnew⟩
            rw [hnew]
            clear hk hnew
            go_wp2
            go_loopw [47] (fun y wq => ∃ q : Nat, y = .int .i64 q ∧ q ≤ m ∧ Hid (Onc w wq g1 (.slice a m c) (comeL L p n) L)) (fun y _ => m - (intOf y).toNat)
            case atStart => exact ⟨0, rfl, Nat.zero_le _, H1⟩
            case round =>
              obtain ⟨q, rfl, hq, H2⟩ := hrel
              rename World => wq
              have v0 := cell_onc H1.out H2.out hb t0
              have v1 := cell_onc H1.out H2.out hb t1
              have hb2 : b < wq.heap.size := by have := H2.out.bel.size; omega
              by_cases hq2 : q < m
              · obtain ⟨bb, ha, hbb, r0, r1⟩ := H2.out.at (j := q) (by rw [← HM.out]; exact hq2)
                subst ha
                have hmem : L.getD q (0, 0) ∈ L := by
                  rw [List.getD_eq_getElem?_getD, List.getElem?_eq_getElem (by rw [← HM.out]; exact hq2)]; exact List.getElem_mem _
                obtain ⟨⟨x0, x1⟩, hx⟩ : ∃ x, x = L.getD q (0, 0) := ⟨_, rfl⟩
                rw [← hx] at r0 r1 hmem
                simp only at r0 r1
                have hq0 : (0 : Int) ≤ (q : Int) := Int.natCast_nonneg _
                have hq1 : (q : Int) < (m : Int) := by omega
                clear hx
                have hne : ¬ x0 = p ∨ (x0 = p ∧ ¬ x1 = n) := by
                  by_cases e0 : x0 = p
                  · exact .inr ⟨e0, fun e1 => HN.out.1 (by rw [← e0, ← e1]; exact hmem)⟩
                  · exact .inl e0
                clear hmem
                rcases hne with e0 | ⟨e0, e1⟩
                · have e0' : (x0 == p) = false := by simpa using e0
                  go_wp2_with fail
                  have heq := fun W => eq_pair x0 x1 p n W
                  go_quiet (fail)
                  go_wp2
                  go_roundw
                  case rel => exact ⟨q + 1, by go_num, by omega, ((H2.out.alloc _).drewN _ : Onc _ _ _ _ _ _)⟩
                  case measure => simp [intOf]; omega
                · subst e0
                  have e1' : (x1 == n) = false := by simpa using e1
                  go_wp2_with fail
                  have heq := fun W => eq_pair x0 x1 x0 n W
                  go_quiet (fail)
                  go_wp2
                  go_roundw
                  case rel => exact ⟨q + 1, by go_num, by omega, ((H2.out.alloc _).drewN _ : Onc _ _ _ _ _ _)⟩
                  case measure => simp [intOf]; omega
              · have hq3 : ¬ (q : Int) < (m : Int) := by omega
                have hrow := H2.out.row
                rw [← HM.out] at hrow
                go_wp2_with (at_builtin; refine wpList_own_append2 _ rfl _ _ 22 22 rfl w.heap.size 30 i0 _ 16 Try.underlying22 hi hz0 hz1 hz2 rfl _ m (L.flatMap encP) rfl (H2.out.alloc _ |>.row |> fun h => by rw [← HM.out] at h; exact h) _ 1 (encP (p, n)) rfl (src_P2 wq (p, n)) ?c3 ?c4 ?c5 ?_)
                case c3 => unfold maxLen; omega
                case c4 => omega
                case c5 => have := H2.out.bel.size; simp; omega
                intro v' w3 ha3
                obtain ⟨a', c', hv'⟩ := ha3.shape
                subst hv'
                have H3 := (H2.out.alloc _).app (by rw [← HM.out]; exact ha3)
                rw [HN.out.2] at H3
                have H3 : Hid _ := H3
                clear ha3 hrow
                go_wp2
                go_roundw
                case rel => exact ⟨i + 1, m + 1, c', a', g1, L ++ [(p, n)], by go_num, rfl, by simp [HM.out], by omega, by omega, by omega, H3⟩
                case measure => simp [intOf]; omega
          · have HN : Hid (comeL L p n = L) := comeL_not hnew
            obtain ⟨k, hke⟩ : ∃ k, k = whatL L p n := ⟨_, rfl⟩
            rw [← hke] at hk hnew ⊢
            have hk1 : ¬ k < 1 := by omega
            have hk2 : ¬ 3 < k := by omega
            have hk3 : (k == 1) = false := by simpa using hnew
            clear hke hk
            go_wp2
            go_loopw [47] (fun y wq => ∃ q : Nat, y = .int .i64 q ∧ q ≤ m ∧ Hid (Onc w wq g1 (.slice a m c) (comeL L p n) L)) (fun y _ => m - (intOf y).toNat)
            case atStart => exact ⟨0, rfl, Nat.zero_le _, H1⟩
            case round =>
              obtain ⟨q, rfl, hq, H2⟩ := hrel
              rename World => wq
              have v0 := cell_onc H1.out H2.out hb t0
              have v1 := cell_onc H1.out H2.out hb t1
              have hb2 : b < wq.heap.size := by have := H2.out.bel.size; omega
              by_cases hq2 : q < m
              · obtain ⟨bb, ha, hbb, r0, r1⟩ := H2.out.at (j := q) (by rw [← HM.out]; exact hq2)
                subst ha
                have hmem : L.getD q (0, 0) ∈ L := by
                  rw [List.getD_eq_getElem?_getD, List.getElem?_eq_getElem (by rw [← HM.out]; exact hq2)]; exact List.getElem_mem _
                obtain ⟨⟨x0, x1⟩, hx⟩ : ∃ x, x = L.getD q (0, 0) := ⟨_, rfl⟩
                rw [← hx] at r0 r1 hmem
                simp only at r0 r1
                have hq0 : (0 : Int) ≤ (q : Int) := Int.natCast_nonneg _
                have hq1 : (q : Int) < (m : Int) := by omega
                clear hx
                have hne : ¬ x0 = p ∨ (x0 = p ∧ ¬ x1 = n) ∨ (x0 = p ∧ x1 = n) := by
                  by_cases e0 : x0 = p
                  · by_cases e1 : x1 = n
                    · exact .inr (.inr ⟨e0, e1⟩)
                    · exact .inr (.inl ⟨e0, e1⟩)
                  · exact .inl e0
                clear hmem
                rcases hne with e0 | ⟨e0, e1⟩ | ⟨e0, e1⟩
                · have e0' : (x0 == p) = false := by simpa using e0
                  go_wp2_with fail
                  have heq := fun W => eq_pair x0 x1 p n W
                  go_quiet (fail)
                  go_wp2
                  go_roundw
                  case rel => exact ⟨q + 1, by go_num, by omega, ((H2.out.alloc _).drewN _ : Onc _ _ _ _ _ _)⟩
                  case measure => simp [intOf]; omega
                · subst e0
                  have e1' : (x1 == n) = false := by simpa using e1
                  go_wp2_with fail
                  have heq := fun W => eq_pair x0 x1 x0 n W
                  go_quiet (fail)
                  go_wp2
                  go_roundw
                  case rel => exact ⟨q + 1, by go_num, by omega, ((H2.out.alloc _).drewN _ : Onc _ _ _ _ _ _)⟩
                  case measure => simp [intOf]; omega
                · subst e0 e1
                  go_wp2_with fail
                  have heq := fun W => eq_pair x0 x1 x0 x1 W
                  go_quiet (fail)
                  go_wp2
                  go_roundw
                  case rel => exact ⟨q + 1, by go_num, by omega, ((H2.out.alloc _).drewN _ : Onc _ _ _ _ _ _)⟩
                  case measure => simp [intOf]; omega
              · have hq3 : ¬ (q : Int) < (m : Int) := by omega
                have H3 := H2.out
                rw [HN.out] at H3
                have H3 : Hid _ := H3
                go_wp2
                go_roundw
                case rel => exact ⟨i + 1, m, c, a, g1, L, by go_num, rfl, HM.out, by omega, by omega, by omega, H3⟩
                case measure => simp [intOf]; omega
      · have HE : Hid (¬ EvOk p n) := hE
        clear hE
        go_wp2_with fail
        go_region_with ((go_at_call 8; refine (come_bad _ _ _ _ HE.out).mono ?_; rintro e w1 ⟨rfl, rfl⟩))
        all_goals
          go_wp2
          go_roundw
          case rel => exact ⟨i + 1, m, c, a, g, L, by go_num, rfl, HM.out, by omega, by omega, by omega, (H.out.drew : Onc _ _ _ _ _ _)⟩
          case measure => simp [intOf]; omega
    · have hor : (True ∧ ¬ (i : Int) < (len0 : Int)) ∨ ((i : Int) < (len0 : Int) ∧ ¬ (i : Int) < 100) := by
        by_cases q : (i : Int) < (len0 : Int)
        · exact .inr ⟨q, by omega⟩
        · exact .inl ⟨trivial, q⟩
      clear hlt
      rcases hor with ⟨hor', hor⟩ | ⟨hor', hor⟩
      all_goals
        go_wp2_with (go_at_call 9; refine (awake14_any _).mono ?_; rintro e w8 ⟨rfl, hb8⟩; have H8 : Hid _ := H.out.below hb8; clear hb8)
        go_ret
        exact ⟨rfl, H8.out.bel⟩

/-! ### The row's step -/
set_option maxRecDepth 100000 in
theorem lifted (os : Os) (started : os.Started) (H : Type) (enc : TypeId × Value → H) :
    ReturnsInHanded {} Try.checked os 3 .any (Rows.windowOnceSpec.pre6 enc Try.prog Try.f3 Rows.windowOnceRow.domain false) (Rows.windowOnceSpec.post enc Try.prog Try.f3 false true false false) := by
  refine returnsInHanded_of_change (C := Try.checked) own started (by kernel_rfl) Try.func3
    (ChangeSpec.witness6 (enc := enc) (C := Try.checked) false ⟨#[], #[.slice none 0 0], []⟩ 8 (by kernel_rfl) (by kernel_rfl) (by kernel_rfl) (by kernel_rfl)) ?_
  intro W base args ds gs before hval0 hW hcnd _
  have hval : ∀ (j : Nat) t v, Try.f3.params[j]? = some t → args[j]? = some v → Value.okWide Try.prog W .any base t v := hval0
  have hW' := hW
  obtain ⟨p, q, hA0, hV, rfl, hfz, hnd⟩ := hW
  have hA : DataW.TrodAll enc Try.prog W 0 (fun _ => true) true Try.f3.params.toList args.toList ds p := hA0
  rw [Try.params3] at hA hval
  obtain ⟨v0, vs0, d0, ds0, p0, q0, hargs, rfl, rfl, h0, r0⟩ := trodAll_cons hA
  obtain ⟨rfl, rfl, rfl⟩ := trodAll_nil r0
  obtain rfl : args = #[v0] := by cases args; simp_all
  obtain ⟨rfl, rfl⟩ := trodVars_none hV
  obtain ⟨a0, len0, cap0, rfl⟩ := okWide_slice Try.underlying22 (hval 0 22 v0 rfl rfl)
  have k0 := h0
  have lt0 : ∀ x ∈ p0, x.block < W.heap.size := by obtain ⟨m, hm⟩ := k0; exact DataW.trod_lt m _ _ _ hm
  obtain ⟨t0, w0⟩ : ∃ ts, InRow 2 encP okP ((0, 0) : Int × Int) W a0 len0 ts := by
    obtain ⟨fuel, hf⟩ := h0
    exact inrow_of 2 encP okP ((0, 0) : Int × Int) 22 30 Try.underlying22 cellsP2 (by omega) lenP (fun n cs x => pair_of n cs x) hf
  clear hA0 hval0
  refine (walk a0 len0 cap0 t0 W w0).mono fun e W' ⟨he, bel⟩ => ?_
  subst he
  exact ⟨_, rfl, _, _, _, [], _, [], hW', trodAll_mk1 (shut_bool Try.underlying4 _), (trodAll_cons_mk (Below.trod laidOut (by kernel_rfl) (of_decide_eq_true (by kernel_rfl)) k0 bel lt0) trodAll_mk0), rfl, bel.frame _, fun h => by cases h⟩

theorem over : Rows.windowOnceRow.holds Try.pinned (OpenSpec.ofChange Rows.windowOnceSpec) :=
  OpenClaim.holds_of_wide 3 Try.f3 rfl rfl rfl rfl rfl rfl rfl ⟨rfl, rfl, rfl, rfl, rfl⟩ rfl rfl rfl rfl rfl (by kernel_rfl) Try.func3 (by kernel_rfl)
    (of_decide_eq_true (by kernel_rfl)) (by unfold Func.isWrapper; first | (rw [if_pos (by decide +kernel)]; kernel_rfl) | (rw [if_neg (by decide +kernel)]; exact ⟨rfl, rfl⟩))
    (fun os started H enc _ => lifted os started H enc)

end Go.Proofs.Ytmnlbheicedloab.windowOnce

namespace Go.Proofs.Ytmnlbheicedloab
/-- Proved: for every list of pairs, WindowOnce answers true (each event is New once at most, whatever comes in between; of at most 100 events). -/
theorem windowOnce_holds : Rows.WindowOnceSaid := windowOnce.over
#print axioms windowOnce_holds
end Go.Proofs.Ytmnlbheicedloab
