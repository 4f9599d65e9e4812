/- Proved: for every text, LinkQuiet answers true (a side that got nothing, and has nothing to send, sends nothing; one that got something says so once).
  The frame is the guide's own shell (proof-skeleton.mjs) at this function; the walk and all ahead of it are mine. -/
import Derived.Test.YtcclfibojmfjgabRows
import Derived.Test.YtcclfibojmfjgabLinkTwo
import Derived.Test.YtcclfibojmfjgabCut
import Derived.WalkKit
import Derived.WalkLawsBesides
import Derived.ProofKit
import Derived.OpenShut
import Derived.ShutString
namespace Go.Proofs.Ytcclfibojmfjgab.linkQuiet
open Go.ChangeShapes Go.WideShapes Go.ChangeAt Go.RowKit
open Go.ChangeMaps (open_string shut_string)
set_option linter.unusedVariables false      -- a walk need not use every 'w<i>' (that an integer argument fits its kind)

theorem own : ownKnob Try.prog.godebug = none := by kernel_rfl


/-! ### STEP 1: THE WALK: the Go text returns true. 'Grown w w'': the world has at most new blocks (Derived/RowKit3.lean). Part the cases AHEAD of 'go_enter' where a test parts the walk; take each callee by a contract of your own. -/
set_option maxRecDepth 100000 in
set_option maxHeartbeats 2000000 in
theorem walk (a0 : ByteArray) (w0 : a0.size ≤ maxLen) (w : World) :
    Calls Try.prog 6 #[.string a0] w fun e w' => e = .returned (.bool true) ∧ Below w.heap.size w w' := by
  have hcs := cut_size a0 100
  obtain ⟨s, hs⟩ : ∃ s, s = cut a0 100 := ⟨_, rfl⟩
  have HC : Hid (s = cut a0 100) := hs
  rw [← hs] at hcs
  clear hs
  go_enter Try.func6, Try.ntmps6
  go_wp2_with fail
  refine (cut_any a0 100 _ w0).mono ?_
  rw [← HC.out]
  rintro e w' ⟨rfl, hw'⟩
  subst w'
  go_wp2_with fail
  refine (packs_a (two_new w)).mono ?_
  rintro e w1 ⟨a, c, P, rfl, hc, hT, hP, h1, k1⟩
  have hP0 : P.length = 0 := by rw [bys_len hP]; rfl
  rw [hP0]
  clear hT hP hc k1
  go_wp2_with fail
  refine (idle_a h1).mono ?_
  rintro e w' ⟨he, hw'⟩
  have he' : e = .returned (.bool true) := he
  subst he'
  rw [hw']
  clear he hw'
  go_wp2_with fail
  refine (push_a h1 s (by omega) (by decide)).mono ?_
  rintro e w2 ⟨rfl, h2, k2⟩
  clear h1 k2
  go_wp2_with fail
  refine (idle_a h2).mono ?_
  rintro e w' ⟨he, hw'⟩
  have he' : e = .returned (.bool false) := he
  subst he'
  rw [hw']
  clear he hw'
  go_wp2_with fail
  refine (packs_a h2).mono ?_
  rintro e w3 ⟨a, c, P, rfl, hc, hT, hP, h3, k3⟩
  have hP' : bys P = [pkB 0 0 s] := hP
  have hl : P.length = 1 := bys_len hP'
  obtain ⟨b, o, ha, hb, hbase, hcells⟩ := hT.get 0 (by omega)
  subst ha
  have c0 := hcells 0 (by omega)
  have e0 : (tx P 0).data.toList = pkB 0 0 s := bys_get hP' 0 (by omega)
  obtain ⟨p0, hp0⟩ : ∃ p, p = tx P 0 := ⟨_, rfl⟩
  rw [← hp0] at c0 e0
  rw [hl] at hc ⊢
  simp only [Nat.add_zero] at c0
  clear h2 hP hP' hcells hp0 hT k3
  go_wp2_with fail
  refine (take_b h3 (n := 0) (c := 0) (s := s) e0 ⟨by decide, by decide, by decide, by decide, by omega, fun h => by cases h⟩ (by decide)).mono ?_
  rintro e w4 ⟨he, h4, k4⟩
  have he' : e = .returned (.tuple #[.string s, .bool true, .nilIface]) := he
  subst he'
  clear he h3 k4 e0
  go_wp2_with fail
  refine (packs_b h4).mono ?_
  rintro e w5 ⟨a5, c5, P5, rfl, hc5, hT5, hP5, h5, k5⟩
  have hP' : bys P5 = [pkB (-1) 1 ByteArray.empty] := hP5
  have hl5 : P5.length = 1 := bys_len hP'
  obtain ⟨b5, o5, ha5, hb5, hbase5, hcells5⟩ := hT5.get 0 (by omega)
  subst ha5
  have c5' := hcells5 0 (by omega)
  have e5 : (tx P5 0).data.toList = pkB (-1) 1 ByteArray.empty := bys_get hP' 0 (by omega)
  obtain ⟨p5, hp5⟩ : ∃ p, p = tx P5 0 := ⟨_, rfl⟩
  rw [← hp5] at c5' e5
  rw [hl5] at hc5 ⊢
  simp only [Nat.add_zero] at c5'
  clear h4 hP5 hP' hcells5 hp5 hT5 k5
  go_wp2_with fail
  refine (packs_b h5).mono ?_
  rintro e w6 ⟨a6, c6, P6, rfl, hc6, hT6, hP6, h6, k6⟩
  have hP0 : P6.length = 0 := by rw [bys_len hP6]; rfl
  rw [hP0]
  have c6' := (World.cell?_of_block (a := ⟨b5, o5, none⟩) (k6.row b5 hbase5 hb5)).trans c5'
  clear hT6 hP6 hc6 k6 h5
  go_wp2_with fail
  refine (idle_b h6).mono ?_
  rintro e w' ⟨he, hw'⟩
  have he' : e = .returned (.bool true) := he
  subst he'
  rw [hw']
  clear he hw'
  go_wp2_with fail
  refine (take_a h6 (n := -1) (c := 1) (s := ByteArray.empty) e5 ⟨by decide, by decide, by decide, by decide, by decide, fun _ => rfl⟩ (by show (0 : Int) < 1000000000000; decide)).mono ?_
  rintro e w7 ⟨he, h7, k7⟩
  have he' : e = .returned (.tuple #[.string ByteArray.empty, .bool false, .nilIface]) := he
  subst he'
  clear he h6 k7 e5
  go_wp2_with fail
  refine (lawake_any _).mono ?_
  rintro e w8 ⟨rfl, hb8⟩
  have h8 := h7.below hb8
  clear h7 hb8
  go_wp2_with fail
  refine (idle_a h8).mono ?_
  rintro e w' ⟨he, hw'⟩
  have he' : e = .returned (.bool true) := he
  subst he'
  rw [hw']
  clear he hw'
  go_wp2_with fail
  refine (packs_a h8).mono ?_
  rintro e w9 ⟨a9, c9, P9, rfl, hc9, hT9, hP9, h9, k9⟩
  have hP0 : P9.length = 0 := by rw [bys_len hP9]; rfl
  rw [hP0]
  have HB : Hid (Below w.heap.size w w9) := h9.bel
  clear hT9 hP9 hc9 k9 h8 h9
  go_wp2
  go_ret
  exact ⟨rfl, HB.out⟩

/-! ### THE ROW's STEP: WRITTEN OUT: LEAVE IT -/
set_option maxRecDepth 100000 in
theorem lifted (os : Os) (started : os.Started) (H : Type) (enc : TypeId × Value → H) :
    ReturnsInHanded {} Try.checked os 6 .any (Rows.linkQuietSpec.pre6 enc Try.prog Try.f6 Rows.linkQuietRow.domain false) (Rows.linkQuietSpec.post enc Try.prog Try.f6 false true false false) := by
  refine returnsInHanded_of_change (C := Try.checked) own started (by kernel_rfl) Try.func6
    (ChangeSpec.witness6 (enc := enc) (C := Try.checked) false ⟨#[], #[.string ByteArray.empty], []⟩ 8 (by kernel_rfl) (by kernel_rfl) (by kernel_rfl) (by kernel_rfl)) ?_
  intro W base args ds gs before hval0 hW hcnd _
  have hval : ∀ (j : Nat) t v, Try.f6.params[j]? = some t → args[j]? = some v → Value.okWide Try.prog W .any base t v := hval0
  have hW' := hW
  obtain ⟨p, q, hA0, hV, rfl, hfz, hnd⟩ := hW
  have hA : DataW.TrodAll enc Try.prog W 0 (fun _ => true) true Try.f6.params.toList args.toList ds p := hA0
  rw [Try.params6] at hA hval
  obtain ⟨v0, vs0, d0, ds0, p0, q0, hargs, rfl, rfl, h0, r0⟩ := trodAll_cons hA
  obtain ⟨rfl, rfl, rfl⟩ := trodAll_nil r0
  obtain rfl : args = #[v0] := by cases args; simp_all
  obtain ⟨rfl, rfl⟩ := trodVars_none hV
  obtain ⟨a0, rfl, rfl, rfl, w0⟩ := open_string Try.underlying9 (hval 0 9 v0 rfl rfl) h0
  clear hA0 hval0
  simp only [List.append_nil] at hW'
  refine (walk a0 w0 W).mono fun e W' ⟨he, bel⟩ => ?_
  subst he
  exact ⟨_, rfl, _, _, _, [], [], [], hW', trodAll_mk1 (shut_bool Try.underlying4 _), (trodAll_cons_mk (shut_string Try.underlying9 w0) trodAll_mk0), rfl, bel.frame _, fun h => by cases h⟩

theorem over : Rows.linkQuietRow.holds Try.pinned (OpenSpec.ofChange Rows.linkQuietSpec) :=
  OpenClaim.holds_of_wide 6 Try.f6 rfl rfl rfl rfl rfl rfl rfl ⟨rfl, rfl, rfl, rfl, rfl⟩ rfl rfl rfl rfl rfl (by kernel_rfl) Try.func6 (by kernel_rfl)
    (of_decide_eq_true (by kernel_rfl)) (by unfold Func.isWrapper; first | (rw [if_pos (by decide +kernel)]; kernel_rfl) | (rw [if_neg (by decide +kernel)]; exact ⟨rfl, rfl⟩))
    (fun os started H enc _ => lifted os started H enc)

end Go.Proofs.Ytcclfibojmfjgab.linkQuiet

namespace Go.Proofs.Ytcclfibojmfjgab
/-- Proved: for every text, LinkQuiet answers true (a side that got nothing, and has nothing to send, sends nothing; one that got something says so once). -/
theorem linkQuiet_holds : Rows.LinkQuietSaid := linkQuiet.over
#print axioms linkQuiet_holds
end Go.Proofs.Ytcclfibojmfjgab
