/- Proved: for every list of entries and any two places, TableKeys answers true (what moves out by one way round the circle and what moves out by the other way are together all; of at most 30 entries).
  The frame is the guide's own shell (proof-skeleton.mjs) at this function; the walk and all ahead of it are mine. -/
import Derived.Test.YtmnlbheicedloaaRows
import Derived.Test.YtmnlbheicedloaaTbLast
import Derived.Test.YtmnlbheicedloaaTbMove
import Derived.Deep.CutBlock
import Derived.Deep.DeepCutAuto
import Derived.Deep.LoopGhost
import Derived.WalkKit
import Derived.WalkLawsBesides
import Derived.ProofKit
import Derived.OpenShut
import Derived.ShutString
import Derived.ChangeOld
import Derived.Below
namespace Go.Proofs.Ytmnlbheicedloaa.tableKeys
open Go.ChangeShapes Go.WideShapes Go.ChangeAt Go.RowKit
open Go.ChangeMaps (open_string shut_string)
set_option linter.unusedVariables false

theorem own : ownKnob Try.prog.godebug = none := by kernel_rfl
theorem laidOut : laidOutB Try.prog = true := by kernel_rfl


theorem ownT_asc {B : Nat} {w0 w : World} {r : Nat} {X : List Ep} (h : OwnT B w0 w r X) : Asc ltK (X.map Ep.key) := by
  obtain ⟨v, hv⟩ := h.tab
  exact hv.asc
def kfn (t : List Ep) (i : Nat) : ByteArray × Int := (cut (t.getD i ep0).gr 30, (t.getD i ep0).ch)
def tfn (t : List Ep) (i : Nat) : Int := (t.getD i ep0).till
theorem wf_u64 {a : Int} (h : (Lit.int .u64 a).wf = true) : 0 ≤ a ∧ a < 18446744073709551616 := by
  have := bounds_u64 h
  omega
/-! ### STEP 1: the walk -/
set_option maxRecDepth 100000 in
set_option maxHeartbeats 20000000 in
theorem walk (a0 : Option Addr) (len0 cap0 : Nat) (t0 : List Ep) (a1 : Int) (a2 : Int) (w : World) (w0 : InRow 5 Ep.cells (EpOk w) ep0 w a0 len0 t0) (w1 : (Lit.int .u64 a1).wf = true) (w2 : (Lit.int .u64 a2).wf = true) :
    Calls Try.prog 7 #[.slice a0 len0 cap0, .int .u64 a1, .int .u64 a2] w fun e w' => e = .returned (.bool true) ∧ Below w.heap.size w w' := by
  have hmx0 := w0.2.1
  have HX : Hid (InRow 5 Ep.cells (EpOk w) ep0 w a0 len0 t0) := w0
  clear w0
  have H0 : Hid _ := OwnT.new w
  go_enter Try.func7, Try.ntmps7
  go_wp2
  go_loopw [8] (fun y wr => ∃ (i : Nat) (X : List Ep), y = .int .i64 i ∧ i ≤ len0 ∧ i ≤ 30 ∧ Hid (OwnT w.heap.size w wr w.heap.size X ∧ LInv (kfn t0) (tfn t0) i X)) (fun y _ => 30 - (intOf y).toNat)
  case atStart => exact ⟨0, [], rfl, Nat.zero_le _, Nat.zero_le _, (⟨H0.out, LInv.nil _ _⟩ : _ ∧ LInv _ _ _ _)⟩
  case round =>
    obtain ⟨i, X, rfl, hil, hi30, H⟩ := hrel
    clear H0
    by_cases hlt : i < len0 ∧ i < 30
    · obtain ⟨hl1, hl2⟩ := hlt
      have hi0 : (0 : Int) ≤ (i : Int) := Int.natCast_nonneg _
      have hi1 : (i : Int) < (len0 : Int) := by omega
      have hi2 : (i : Int) < 30 := by omega
      obtain ⟨b, o, ha, hb, hok, c0, c1, c2, c3, c4⟩ := ent_at HX.out H.out.1.bel hl1
      subst ha
      have hkf : kfn t0 i = (cut (t0.getD i ep0).gr 30, (t0.getD i ep0).ch) := rfl
      have htf : tfn t0 i = (t0.getD i ep0).till := rfl
      obtain ⟨x, hx⟩ : ∃ x, x = t0.getD i ep0 := ⟨_, rfl⟩
      rw [← hx] at hok c0 c1 c2 c3 c4 hkf htf
      have HKF : Hid _ := hkf
      have HTF : Hid _ := htf
      have HOK : Hid (EpOk w x) := hok
      clear hx hkf htf hok
      have HC : Hid _ := cutIn HOK.out H.out.1.bel
      obtain ⟨gr, ch, fa, fl, fc, any, till, fs⟩ := x
      simp only at c0 c1 c2 c3 c4 HKF HTF HC
      go_wp2_with fail
      refine Calls.mono HC.out ?_
      rintro e w1 ⟨a1, n1, p1, rfl, hs1, hn1, hb1⟩
      have H1 : Hid (OwnT w.heap.size w w1 w.heap.size X ∧ LInv (kfn t0) (tfn t0) i X) := ⟨H.out.1.below hb1, H.out.2⟩
      have HS1 : Hid _ := hs1
      clear hs1 hb1 HC c0 c1 c2 c3 c4
      generalize hcg : cut gr 30 = cg at HKF
      go_wp2_with fail
      refine (H1.out.1.put cg ch a1 n1 p1 any till (cutF fs) HS1.out (by omega) (.inr (by have := H1.out.2.len; omega))).mono ?_
      rintro e w2 ⟨rfl, x2, hx2, hT2, _⟩
      have H2 : Hid (OwnT w.heap.size w w2 w.heap.size (putE X x2) ∧ LInv (kfn t0) (tfn t0) (i + 1) (putE X x2)) := ⟨hT2, H1.out.2.put (ownT_asc H1.out.1) (hx2.1.trans HKF.out.symm) (hx2.2.1.trans HTF.out.symm)⟩
      clear hx2 hT2 H1 HS1
      go_wp2
      go_roundw
      case rel => exact ⟨i + 1, _, by go_num, by omega, by omega, H2⟩
      case measure => simp [intOf]; omega
    · have hor : (True ∧ ¬ (i : Int) < (len0 : Int)) ∨ ((i : Int) < (len0 : Int) ∧ ¬ (i : Int) < 30) := by
        by_cases q : (i : Int) < (len0 : Int)
        · exact .inr ⟨q, by omega⟩
        · exact .inl ⟨trivial, q⟩
      have HI : Hid (∀ j, j < len0 → j < 30 → j < i) := fun j h1 h2 => by omega
      have HI2 : Hid (∀ j, j < i → j < len0 ∧ j < 30) := fun j h1 => by omega
      have HSZ : Hid (∀ x ∈ X, x.gr.size ≤ 200) := fun x hx => by
        obtain ⟨j, _, e1, _⟩ := H.out.2.each x hx
        have e2 : x.gr = cut (t0.getD j ep0).gr 30 := congrArg Prod.fst e1
        rw [e2]
        have := cut_size (t0.getD j ep0).gr 30
        omega
      have hXl : X.length ≤ 30 := by have := H.out.2.len; omega
      clear hlt
      go_upto_region 3 with fail
      go_cut [19] (fun v wx => v = .bool false ∧ wr = wx)
      case first =>
        rcases hor with ⟨hor', hor⟩ | ⟨hor', hor⟩
        all_goals
          go_wp2_with fail
          go_meet
          exact ⟨by simp, rfl⟩
      case rest =>
        obtain ⟨rfl, hwx⟩ := hcut
        subst hwx
        clear hor
        have HT : Hid (OwnT w.heap.size w wr w.heap.size X) := H.out.1
        clear H HI HI2
        by_cases hab : a1 = a2
        · subst hab
          have hW := way_all X a1
          have HW : Hid _ := hW
          clear hW
          go_wp2_with (first
            | (go_at_call 14; refine (awake13_any _).mono ?_; rintro e w8 ⟨rfl, hb8⟩; have H8 : Hid (OwnT w.heap.size w w8 w.heap.size X) := HT.out.below hb8; clear hb8)
            | (go_at_call 11; refine (H8.out.move a1 a1 HSZ.out).mono ?_; rintro e w9 ⟨aM, cM, rfl, hM⟩; rw [HW.out.1]; have H9 : Hid (OwnT w.heap.size w w9 w.heap.size []) := (by rw [← HW.out.2]; exact hM : OwnT w.heap.size w w9 w.heap.size []); clear hM)
            | (go_at_call 10; refine (H9.out.len).mono ?_; rintro e w6 ⟨rfl, hw6⟩; subst w6)
            | (go_at_call 10; refine (HT.out.len).mono ?_; rintro e w6 ⟨rfl, hw6⟩; subst w6))
          go_ret
          exact ⟨ret_b (by simp), H9.out.bel⟩
        · have hab' : (a1 == a2) = false := by simpa using hab
          obtain ⟨hW1, hW2, hW3⟩ := ways_all X a1 a2 (wf_u64 w1) (wf_u64 w2) hab
          have hS2 : ∀ x ∈ X.filter (fun x => !goesB a1 a2 x), x.gr.size ≤ 200 := fun x hx => HSZ.out x (List.mem_filter.1 hx).1
          generalize hY : X.filter (fun x => !goesB a1 a2 x) = Y at hW1 hW2 hW3 hS2
          obtain ⟨nA, hA⟩ : ∃ n, n = (X.filter (goesB a1 a2)).length := ⟨_, rfl⟩
          rw [← hA] at hW3
          have hsum : (nA : Int) + (Y.length : Int) = (X.length : Int) := by omega
          have hnA : nA ≤ 30 := by omega
          have hnY : Y.length ≤ 30 := by omega
          have HY : Hid _ := hY
          have HA : Hid _ := hA
          have HW1 : Hid _ := hW1
          have HW2 : Hid _ := hW2
          have HS2 : Hid _ := hS2
          clear hY hA hW1 hW2 hW3 hS2
          go_wp2_with (first
            | (go_at_call 14; refine (awake13_any _).mono ?_; rintro e w8 ⟨rfl, hb8⟩; have H8 : Hid (OwnT w.heap.size w w8 w.heap.size []) := H10.out.below hb8; clear hb8)
            | (go_at_call 11; refine (H9.out.move a2 a1 HS2.out).mono ?_; rintro e w10 ⟨aN, cN, rfl, hM⟩; rw [HW1.out]; have H10 : Hid (OwnT w.heap.size w w10 w.heap.size []) := (by rw [← HW2.out]; exact hM : OwnT w.heap.size w w10 w.heap.size []); clear hM)
            | (go_at_call 11; refine (HT.out.move a1 a2 HSZ.out).mono ?_; rintro e w9 ⟨aM, cM, rfl, hM⟩; rw [← HA.out]; have H9 : Hid (OwnT w.heap.size w w9 w.heap.size Y) := (by rw [← HY.out]; exact hM : OwnT w.heap.size w w9 w.heap.size Y); clear hM)
            | (go_at_call 12; refine (H8.out.groups).mono ?_; rintro e w7 ⟨rfl, hw7⟩; subst w7)
            | (go_at_call 10; refine (H8.out.len).mono ?_; rintro e w6 ⟨rfl, hw6⟩; subst w6)
            | (go_at_call 10; refine (HT.out.len).mono ?_; rintro e w6 ⟨rfl, hw6⟩; subst w6))
          go_ret
          exact ⟨ret_b (by simp), H8.out.bel⟩

/-! ### The row's step -/
set_option maxRecDepth 100000 in
theorem lifted (os : Os) (started : os.Started) (H : Type) (enc : TypeId × Value → H) :
    ReturnsInHanded {} Try.checked os 7 .any (Rows.tableKeysSpec.pre6 enc Try.prog Try.f7 Rows.tableKeysRow.domain false) (Rows.tableKeysSpec.post enc Try.prog Try.f7 false true false false) := by
  refine returnsInHanded_of_change (C := Try.checked) own started (by kernel_rfl) Try.func7
    (ChangeSpec.witness6 (enc := enc) (C := Try.checked) false ⟨#[], #[.slice none 0 0, .int .u64 0, .int .u64 0], []⟩ 8 (by kernel_rfl) (by kernel_rfl) (by kernel_rfl) (by kernel_rfl)) ?_
  intro W base args ds gs before hval0 hW hcnd _
  have hval : ∀ (j : Nat) t v, Try.f7.params[j]? = some t → args[j]? = some v → Value.okWide Try.prog W .any base t v := hval0
  have hW' := hW
  obtain ⟨p, q, hA0, hV, rfl, hfz, hnd⟩ := hW
  have hA : DataW.TrodAll enc Try.prog W 0 (fun _ => true) true Try.f7.params.toList args.toList ds p := hA0
  rw [Try.params7] at hA hval
  obtain ⟨v0, vs0, d0, ds0, p0, q0, hargs, rfl, rfl, h0, r0⟩ := trodAll_cons hA
  obtain ⟨v1, vs1, d1, ds1, p1, q1, rfl, rfl, rfl, h1, r1⟩ := trodAll_cons r0
  obtain ⟨v2, vs2, d2, ds2, p2, q2, rfl, rfl, rfl, h2, r2⟩ := trodAll_cons r1
  obtain ⟨rfl, rfl, rfl⟩ := trodAll_nil r2
  obtain rfl : args = #[v0, v1, v2] := by cases args; simp_all
  obtain ⟨rfl, rfl⟩ := trodVars_none hV
  obtain ⟨a0, len0, cap0, rfl⟩ := okWide_slice Try.underlying22 (hval 0 22 v0 rfl rfl)
  have k0 := h0
  have lt0 : ∀ x ∈ p0, x.block < W.heap.size := by obtain ⟨m, hm⟩ := k0; exact DataW.trod_lt m _ _ _ hm
  obtain ⟨t0, w0⟩ : ∃ ts, InRow 5 Ep.cells (EpOk W) ep0 W a0 len0 ts := by
    obtain ⟨fuel, hf⟩ := h0
    exact inrow_of 5 Ep.cells (EpOk W) ep0 22 32 Try.underlying22 cellsEnt (by omega) Ep.cells_len (fun n cs x => ent_of n cs x) hf
  obtain ⟨a1, rfl, rfl, rfl, w1⟩ := open_int Try.underlying24 (hval 1 24 v1 rfl rfl) h1
  obtain ⟨a2, rfl, rfl, rfl, w2⟩ := open_int Try.underlying24 (hval 2 24 v2 rfl rfl) h2
  clear hA0 hval0
  refine (walk a0 len0 cap0 t0 a1 a2 W w0 w1 w2).mono fun e W' ⟨he, bel⟩ => ?_
  subst he
  exact ⟨_, rfl, _, _, _, [], _, [], hW', trodAll_mk1 (shut_bool Try.underlying4 _), (trodAll_cons_mk (Below.trod laidOut (by kernel_rfl) (of_decide_eq_true (by kernel_rfl)) k0 bel lt0) (trodAll_cons_mk (shut_int Try.underlying24 w1) (trodAll_cons_mk (shut_int Try.underlying24 w2) trodAll_mk0))), rfl, bel.frame _, fun h => by cases h⟩

theorem over : Rows.tableKeysRow.holds Try.pinned (OpenSpec.ofChange Rows.tableKeysSpec) :=
  OpenClaim.holds_of_wide 7 Try.f7 rfl rfl rfl rfl rfl rfl rfl ⟨rfl, rfl, rfl, rfl, rfl⟩ rfl rfl rfl rfl rfl (by kernel_rfl) Try.func7 (by kernel_rfl)
    (of_decide_eq_true (by kernel_rfl)) (by unfold Func.isWrapper; first | (rw [if_pos (by decide +kernel)]; kernel_rfl) | (rw [if_neg (by decide +kernel)]; exact ⟨rfl, rfl⟩))
    (fun os started H enc _ => lifted os started H enc)

end Go.Proofs.Ytmnlbheicedloaa.tableKeys

namespace Go.Proofs.Ytmnlbheicedloaa
/-- Proved: for every list of entries and any two places, TableKeys answers true (what moves out by one way round the circle and what moves out by the other way are together all; of at most 30 entries). -/
theorem tableKeys_holds : Rows.TableKeysSaid := tableKeys.over
#print axioms tableKeys_holds
end Go.Proofs.Ytmnlbheicedloaa
