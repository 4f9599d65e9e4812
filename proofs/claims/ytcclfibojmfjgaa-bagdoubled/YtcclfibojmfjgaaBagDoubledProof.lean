/- Proved: for every sender, address, text and number of times, BagDoubled answers true (a copy is the same text between the same two, under a number of its own).
  The frame is the guide's own shell (proof-skeleton.mjs) at this function; the walk and all ahead of it are mine. -/
import Derived.Test.YtcclfibojmfjgaaRows
import Derived.Test.YtcclfibojmfjgaaBagAwake
import Derived.WalkKit
import Derived.WalkLawsBesides
import Derived.ProofKit
import Derived.OpenShut
import Derived.ShutString
namespace Go.Proofs.Ytcclfibojmfjgaa.bagDoubled
open Go.ChangeShapes Go.WideShapes Go.ChangeAt Go.RowKit
open Go.ChangeMaps (open_string shut_string)
set_option linter.unusedVariables false      -- a walk need not use every 'w<i>' (that an integer argument fits its kind)

theorem own : ownKnob Try.prog.godebug = none := by kernel_rfl


def Dbl (x y : Int) (s : ByteArray) (n : Nat) (g : Bg) : Prop := g.ok ∧ g.ps.length = n ∧ g.last = n ∧ g.ps.getD 0 pk0 = ⟨1, x, y, s⟩ ∧ ∀ p ∈ g.ps, p.src = x ∧ p.dst = y ∧ p.s = s
theorem dbl_first (x y : Int) (s : ByteArray) (hs : s.size ≤ 2000) (hx : i64 x) (hy : i64 y) : Dbl x y s 1 (bg0.add x y s) := by
  refine ⟨bg0_ok.add x y s hs (by decide) hx hy, rfl, rfl, rfl, fun p hp => ?_⟩
  obtain rfl := List.mem_singleton.1 (show p ∈ [_] from hp)
  exact ⟨rfl, rfl, rfl⟩
theorem dbl_step {x y : Int} {s : ByteArray} {n : Nat} {g : Bg} (h : Dbl x y s n g) (h0 : 0 < n) (h1 : n < 4000) (hs : s.size ≤ 2000) (hx : i64 x) (hy : i64 y) : Dbl x y s (n + 1) (g.add x y s) := by
  obtain ⟨a, b, c, d, e⟩ := h
  refine ⟨a.add x y s hs (by omega) hx hy, ?_, ?_, ?_, ?_⟩
  · show (g.ps ++ [_]).length = _; simp [b]
  · show g.last + 1 = _; rw [c]; simp
  · show (g.ps ++ [_]).getD 0 pk0 = _
    rw [List.getD_eq_getElem?_getD, List.getElem?_append_left (by omega), ← List.getD_eq_getElem?_getD]; exact d
  · intro p hp
    rcases List.mem_append.1 (show p ∈ g.ps ++ [_] from hp) with h | h
    · exact e p h
    · obtain rfl := List.mem_singleton.1 h; exact ⟨rfl, rfl, rfl⟩
/-! ### STEP 1: THE WALK: the Go text returns true. 'Grown w w'': the world has at most new blocks (Derived/RowKit3.lean). Part the cases AHEAD of 'go_enter' where a test parts the walk; take each callee by a contract of your own. -/
set_option maxRecDepth 100000 in
set_option maxHeartbeats 2000000 in
theorem walk (a0 : Int) (a1 : Int) (a2 : ByteArray) (a3 : Int) (w0 : (Lit.int .i64 a0).wf = true) (w1 : (Lit.int .i64 a1).wf = true) (w2 : a2.size ≤ maxLen) (w3 : (Lit.int .i64 a3).wf = true) (w : World) :
    Calls Try.prog 6 #[.int .i64 a0, .int .i64 a1, .string a2, .int .i64 a3] w fun e w' => e = .returned (.bool true) ∧ Below w.heap.size w w' := by
  have x0 := bounds_i64 w0
  have x1 := bounds_i64 w1
  have I0 : Hid (i64 a0 ∧ i64 a1) := ⟨x0, x1⟩
  clear x0 x1 w0 w1 w3
  unfold maxLen at w2
  by_cases hc : a2.size ≤ 300 ∧ 0 ≤ a3 ∧ a3 ≤ 20
  · obtain ⟨hs, ht0, ht1⟩ := hc
    obtain ⟨n, rfl⟩ : ∃ n : Nat, a3 = n := ⟨a3.toNat, by omega⟩
    have hn : n ≤ 20 := by omega
    go_enter Try.func6, Try.ntmps6
    go_wp2_with fail
    refine (send_ok w.heap.size w.heap.size _ bg0 a0 a1 a2 _ (BagAt.new w _ (Nat.le_refl _)) (by simp) (by omega) (by decide) (by decide) (by decide)).mono ?_
    rintro e w1 ⟨he, v1, h1, k1⟩
    have he' : e = .returned (.tuple #[.int .i64 1, .nilIface]) := he
    subst he'
    clear he
    have b1 : Below w.heap.size w w1 := k1.belowB (BagAt.new w _ (Nat.le_refl _)) ((Below.refl _ _).alloc (Nat.le_refl _) _) (by simp)
    have H1 : Hid (BagAt w.heap.size w1 w.heap.size v1 (bg0.add a0 a1 a2) ∧ Below w.heap.size w w1) := ⟨h1, b1⟩
    clear k1 h1 b1
    go_wp2
    go_loopw [12] (fun y wr => ∃ (i : Nat) (g : Bg) (v : Value), y = .int .i64 i ∧ i ≤ n ∧ Hid (Dbl a0 a1 a2 (i + 1) g ∧ BagAt w.heap.size wr w.heap.size v g ∧ Below w.heap.size w wr)) (fun y _ => n - (intOf y).toNat)
    case atStart => exact ⟨0, _, v1, rfl, Nat.zero_le _, (⟨dbl_first a0 a1 a2 (by omega) I0.out.1 I0.out.2, H1.out⟩ : Dbl a0 a1 a2 (0 + 1) (bg0.add a0 a1 a2) ∧ BagAt w.heap.size w1 w.heap.size v1 (bg0.add a0 a1 a2) ∧ Below w.heap.size w w1)⟩
    case round =>
      obtain ⟨i, g, v, rfl, hin, H⟩ := hrel
      by_cases hlt : i < n
      · obtain ⟨hD, hA, hb⟩ := H.out
        have hcon := copy_ok w.heap.size w.heap.size v g 1 0 wr hA hb.size hD.1 (by rw [hD.2.1]; omega) (by rw [hD.2.2.2.1]) (by rw [hD.2.1]; omega) (by rw [hD.2.2.1]; omega)
        rw [hD.2.2.2.1] at hcon
        have hDD := dbl_step hD (by omega) (by omega) (by omega) I0.out.1 I0.out.2
        have hl : g.last + 1 = 2 + (i : Int) := by rw [hD.2.2.1]; omega
        rw [hl] at hcon
        have HD : Hid (Dbl a0 a1 a2 (i + 1 + 1) (g.add a0 a1 a2) ∧ BagAt w.heap.size wr w.heap.size v g ∧ Below w.heap.size w wr) := ⟨hDD, hA, hb⟩
        clear hD hA hb hDD hl H
        go_wp2_with fail
        refine hcon.mono ?_
        rintro e w2 ⟨rfl, v2, h2, k2⟩
        have H2 : Hid (Dbl a0 a1 a2 (i + 1 + 1) (g.add a0 a1 a2) ∧ BagAt w.heap.size w2 w.heap.size v2 (g.add a0 a1 a2) ∧ Below w.heap.size w w2) := ⟨HD.out.1, h2, k2.belowB HD.out.2.1 HD.out.2.2 HD.out.2.2.size⟩
        clear h2 k2 hcon
        go_wp2
        go_roundw
        case rel => exact ⟨i + 1, _, v2, by go_num, by omega, H2⟩
        case measure => simp [intOf]; omega
      · obtain rfl : i = n := by omega
        obtain ⟨hD, hA, hb⟩ := H.out
        have hlen : g.ps.length = i + 1 := hD.2.1
        go_wp2_with fail
        refine (all_any w.heap.size w.heap.size v g wr hA (by omega)).mono ?_
        rintro e w2 ⟨v2, rfl, hrow, hb2⟩
        rcases pkrow_of hrow with ⟨_, _, _, hn⟩ | ⟨gg, c, rfl, hBg, hpos, R, _⟩
        · rw [hn] at hlen; simp at hlen
        have hA2 := hA.below hb2
        have H2 : Hid (BagAt w.heap.size w2 w.heap.size v g ∧ Below w.heap.size w w2 ∧ PkRow w2 gg g.ps) := ⟨hA2, hb.trans (hb2.mono hb.size), R⟩
        have HF : Hid (∀ p ∈ g.ps, p.src = a0 ∧ p.dst = a1 ∧ p.s = a2) := hD.2.2.2.2
        have HL : Hid (g.ps.length = i + 1) := hlen
        rw [hlen]
        clear hD hA hb hrow hb2 hA2 R H hpos hBg hlen
        go_wp2
        go_loopw [58] (fun y wr => ∃ j : Nat, y = .int .i64 j ∧ j ≤ i + 1 ∧ Hid (BagAt w.heap.size wr w.heap.size v g ∧ Below w.heap.size w wr ∧ PkRow wr gg g.ps)) (fun y _ => i + 1 - (intOf y).toNat)
        case atStart => exact ⟨0, rfl, Nat.zero_le _, H2⟩
        case round =>
          obtain ⟨j, rfl, hj, H3⟩ := hrel
          by_cases hlt2 : j < i + 1
          · obtain ⟨hA, hb, R⟩ := H3.out
            have hjl : j < g.ps.length := by rw [HL.out]; exact hlt2
            have hj0 : (0 : Int) ≤ (j : Int) := Int.natCast_nonneg _
            have hj1 : (j : Int) < (i : Int) + 1 := by omega
            have hf := HF.out _ (getD_mem g.ps j hjl)
            have s0 := R.c0 j hjl
            have s1 := R.c1 j hjl
            have s2 := R.c2 j hjl
            have s3 := R.c3 j hjl
            rw [hf.1] at s1
            rw [hf.2.1] at s2
            rw [hf.2.2] at s3
            obtain ⟨z, hz⟩ : ∃ z, z = (g.ps.getD j pk0).id := ⟨_, rfl⟩
            rw [← hz] at s0
            clear hz hf hA hb R
            go_wp2
            go_roundw
            case rel => exact ⟨j + 1, by go_num, by omega, (⟨H3.out.1.alloc _, H3.out.2.1.alloc H3.out.2.1.size _, H3.out.2.2.alloc _⟩ : BagAt _ _ _ _ _ ∧ Below _ _ _ ∧ PkRow _ _ _)⟩
            case measure => simp [intOf]; omega
          · obtain rfl : j = i + 1 := by omega
            go_wp2_with (first
              | (go_at_call 11; refine (bawake_any _).mono ?_; rintro e w4 ⟨rfl, hb4⟩)
              | (go_at_call 13; refine (len_any w.heap.size w.heap.size v g _ (H3.out.1.below hb4)).mono ?_; rintro e w' ⟨rfl, rfl⟩; rw [HL.out]))
            go_ret
            exact ⟨ret_b (by simp; omega), H3.out.2.1.trans (hb4.mono H3.out.2.1.size)⟩
  · have hc' : 300 < a2.size ∨ a3 < 0 ∨ 20 < a3 := by omega
    clear hc
    rcases hc' with hc | hc | hc
    all_goals
      go_enter Try.func6, Try.ntmps6
      go_wp2_with (go_at_call 11; refine (bawake_any _).mono ?_; rintro e w4 ⟨rfl, hb4⟩)
      all_goals
        go_ret
        exact ⟨rfl, hb4⟩

/-! ### THE ROW's STEP: WRITTEN OUT: LEAVE IT -/
set_option maxRecDepth 100000 in
theorem lifted (os : Os) (started : os.Started) (H : Type) (enc : TypeId × Value → H) :
    ReturnsInHanded {} Try.checked os 6 .any (Rows.bagDoubledSpec.pre6 enc Try.prog Try.f6 Rows.bagDoubledRow.domain false) (Rows.bagDoubledSpec.post enc Try.prog Try.f6 false true false false) := by
  refine returnsInHanded_of_change (C := Try.checked) own started (by kernel_rfl) Try.func6
    (ChangeSpec.witness6 (enc := enc) (C := Try.checked) false ⟨#[], #[.int .i64 0, .int .i64 0, .string ByteArray.empty, .int .i64 0], []⟩ 8 (by kernel_rfl) (by kernel_rfl) (by kernel_rfl) (by kernel_rfl)) ?_
  intro W base args ds gs before hval0 hW hcnd _
  have hval : ∀ (j : Nat) t v, Try.f6.params[j]? = some t → args[j]? = some v → Value.okWide Try.prog W .any base t v := hval0
  have hW' := hW
  obtain ⟨p, q, hA0, hV, rfl, hfz, hnd⟩ := hW
  have hA : DataW.TrodAll enc Try.prog W 0 (fun _ => true) true Try.f6.params.toList args.toList ds p := hA0
  rw [Try.params6] at hA hval
  obtain ⟨v0, vs0, d0, ds0, p0, q0, hargs, rfl, rfl, h0, r0⟩ := trodAll_cons hA
  obtain ⟨v1, vs1, d1, ds1, p1, q1, rfl, rfl, rfl, h1, r1⟩ := trodAll_cons r0
  obtain ⟨v2, vs2, d2, ds2, p2, q2, rfl, rfl, rfl, h2, r2⟩ := trodAll_cons r1
  obtain ⟨v3, vs3, d3, ds3, p3, q3, rfl, rfl, rfl, h3, r3⟩ := trodAll_cons r2
  obtain ⟨rfl, rfl, rfl⟩ := trodAll_nil r3
  obtain rfl : args = #[v0, v1, v2, v3] := by cases args; simp_all
  obtain ⟨rfl, rfl⟩ := trodVars_none hV
  obtain ⟨a0, rfl, rfl, rfl, w0⟩ := open_int Try.underlying3 (hval 0 3 v0 rfl rfl) h0
  obtain ⟨a1, rfl, rfl, rfl, w1⟩ := open_int Try.underlying3 (hval 1 3 v1 rfl rfl) h1
  obtain ⟨a2, rfl, rfl, rfl, w2⟩ := open_string Try.underlying9 (hval 2 9 v2 rfl rfl) h2
  obtain ⟨a3, rfl, rfl, rfl, w3⟩ := open_int Try.underlying3 (hval 3 3 v3 rfl rfl) h3
  clear hA0 hval0
  simp only [List.append_nil] at hW'
  refine (walk a0 a1 a2 a3 w0 w1 w2 w3 W).mono fun e W' ⟨he, bel⟩ => ?_
  subst he
  exact ⟨_, rfl, _, _, _, [], [], [], hW', trodAll_mk1 (shut_bool Try.underlying4 _), (trodAll_cons_mk (shut_int Try.underlying3 w0) (trodAll_cons_mk (shut_int Try.underlying3 w1) (trodAll_cons_mk (shut_string Try.underlying9 w2) (trodAll_cons_mk (shut_int Try.underlying3 w3) trodAll_mk0)))), rfl, bel.frame _, fun h => by cases h⟩

theorem over : Rows.bagDoubledRow.holds Try.pinned (OpenSpec.ofChange Rows.bagDoubledSpec) :=
  OpenClaim.holds_of_wide 6 Try.f6 rfl rfl rfl rfl rfl rfl rfl ⟨rfl, rfl, rfl, rfl, rfl⟩ rfl rfl rfl rfl rfl (by kernel_rfl) Try.func6 (by kernel_rfl)
    (of_decide_eq_true (by kernel_rfl)) (by unfold Func.isWrapper; first | (rw [if_pos (by decide +kernel)]; kernel_rfl) | (rw [if_neg (by decide +kernel)]; exact ⟨rfl, rfl⟩))
    (fun os started H enc _ => lifted os started H enc)

end Go.Proofs.Ytcclfibojmfjgaa.bagDoubled

namespace Go.Proofs.Ytcclfibojmfjgaa
/-- Proved: for every sender, address, text and number of times, BagDoubled answers true (a copy is the same text between the same two, under a number of its own). -/
theorem bagDoubled_holds : Rows.BagDoubledSaid := bagDoubled.over
#print axioms bagDoubled_holds
end Go.Proofs.Ytcclfibojmfjgaa
