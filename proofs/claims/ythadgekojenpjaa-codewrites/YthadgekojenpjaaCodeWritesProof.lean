/- Proved: for every list of things, CodeWrites answers true (the first 40 things, their texts cut to 200 bytes, are written as the document says).
  The frame is the guide's own shell (proof-skeleton.mjs) at this function; the walk and all ahead of it are mine. -/
import Derived.Test.YthadgekojenpjaaRows
import Derived.Test.YthadgekojenpjaaAid
import Derived.Test.YthadgekojenpjaaCodeMath
import Derived.Test.YthadgekojenpjaaOwnSrc
import Derived.Test.YthadgekojenpjaaCodeW
import Derived.Test.YthadgekojenpjaaCodeR
import Derived.Test.YthadgekojenpjaaCodeR2
import Derived.Test.YthadgekojenpjaaCodeIs
import Derived.Test.YthadgekojenpjaaCodeAwake
import Derived.Test.YthadgekojenpjaaCodeUse
import Derived.Test.YthadgekojenpjaaCut
import Derived.Test.YthadgekojenpjaaThings
import Derived.Test.YthadgekojenpjaaCodePut
import Derived.Test.YthadgekojenpjaaCodeRef
import Derived.Test.YthadgekojenpjaaThingsFrame
import Derived.Test.YthadgekojenpjaaThingsUse
import Derived.WalkKit
import Derived.WalkLawsBesides
import Derived.ProofKit
import Derived.OpenShut
import Derived.ShutString
import Derived.ChangeOld
import Derived.Below
namespace Go.Proofs.Ythadgekojenpjaa.codeWrites
open Go.ChangeShapes Go.WideShapes Go.ChangeAt Go.RowKit
open Go.ChangeMaps (open_string shut_string)
set_option linter.unusedVariables false

theorem own : ownKnob Try.prog.godebug = none := by kernel_rfl
theorem laidOut : laidOutB Try.prog = true := by kernel_rfl


/-! ### STEP 1: the walk -/
theorem walk (a0 : Option Addr) (len0 cap0 : Nat) (t0 : List Th) (w : World) (w0 : IsThings w a0 len0 cap0 t0) :
    Calls Try.prog 3 #[.slice a0 len0 cap0] w fun e w' => e = .returned (.bool true) ∧ Below w.heap.size w w' := by
  have hok := fewOf_ok (m := 40) w0.oks
  have hlen := fewOf_len t0 40
  obtain ⟨us, hus⟩ : ∃ us, us = fewOf t0 40 := ⟨_, rfl⟩
  rw [← hus] at hok hlen
  have hbl : ∀ k, (bytesOf (us.take k)).length ≤ 8400 := fun k => by
    have h1 := bytesOf_len (us.take k) (fun u hu => Th.bytes_len u (hok u (List.mem_of_mem_take hu)).1 (hok u (List.mem_of_mem_take hu)).2)
    have h2 : (us.take k).length ≤ us.length := by simp; omega
    omega
  have b0 : Below w.heap.size w (w.alloc (.cells #[.slice none 0 0] 25)) := (Below.refl _ _).alloc (Nat.le_refl _) _
  have hW0 := wr_new w.heap.size w (Nat.le_refl _)
  have hT0 := w0.below b0
  go_enter Try.func3, Try.ntmps3
  go_wp2_with fail
  refine (few_of a0 len0 cap0 40 t0 _ hT0 (by omega)).mono ?_
  rw [← hus]
  rintro e w1 ⟨v, rfl, hown, hb1⟩
  have hW1 := hW0.below hb1
  have b1 := b0.trans (hb1.mono (by simp))
  have hrow := row_of hown
  have s1 := hW1.lt
  have HU : Hid (us = fewOf t0 40) := hus
  clear hus hown hb1 hW0 b0 hT0
  rcases hrow with ⟨a, c, hv, hu0⟩ | ⟨g, c, hv, hg, hpos, hrow⟩
  · rw [hv]
    subst hu0
    clear hv
    go_wp2
    refine wp_loop_rounds 1 ?_
    rw [rounds_succ]
    go_wp2_with fail
    refine (cawake_any w1).mono ?_
    rintro e w2 ⟨rfl, hb2⟩
    have hW2 := hW1.below hb2
    have b2 := b1.trans (hb2.mono (by omega))
    clear hb2 hW1 b1
    go_wp2_with fail
    refine (bytes_any w.heap.size w.heap.size _ _ w2 hW2).mono ?_
    rintro e w' ⟨rfl, hw'⟩
    rw [hw']
    clear hw' w'
    go_wp2
    go_ret
    exact ⟨rfl, b2⟩
  · rw [hv]
    clear hv
    go_wp2
    have hgw : g ≠ w.heap.size := by simp at hg; omega
    go_loopw [4, 10] (fun x y wr => ∃ (k : Nat) (u : Value), k ≤ us.length ∧ x = .string ⟨(bytesOf (us.take k)).toArray⟩ ∧ y = .int .i64 k ∧ Wr w.heap.size wr w.heap.size u (bytesOf (us.take k)) ∧ ThRow wr g us ∧ u.ownBlock ≠ some g ∧ Below w.heap.size w wr)
      (fun _ y _ => us.length - (intOf y).toNat)
    case atStart => exact ⟨0, .slice none 0 0, Nat.zero_le _, rfl, rfl, hW1, hrow, by simp [Value.ownBlock], b1⟩
    case round =>
      obtain ⟨k, u, hk, rfl, rfl, hW, hR, hug, hb⟩ := hrel
      have hsz : w.heap.size < wr.heap.size := hW.lt
      by_cases hlt : k < us.length
      · obtain ⟨t, ht⟩ : ∃ t, t = us.getD k th0 := ⟨_, rfl⟩
        have hmem : us.getD k th0 ∈ us := by rw [List.getD_eq_getElem?_getD, List.getElem?_eq_getElem hlt]; simp
        have htok := hok _ hmem
        have g0 := hR.c0 k hlt
        have g1 := hR.c1 k hlt
        have g2 := hR.c2 k hlt
        have g3 := hR.c3 k hlt
        have HS : Hid (bytesOf (us.take (k + 1)) = bytesOf (us.take k) ++ t.bytes) := (by rw [ht]; exact bytesOf_snoc us k hlt : bytesOf (us.take (k + 1)) = bytesOf (us.take k) ++ t.bytes)
        rw [← ht] at htok g0 g1 g2 g3
        clear ht hmem
        have hbk := hbl k
        have hbt := Th.bytes_len t htok.1 htok.2
        have hW' := hW.alloc (.cells #[.int .i64 t.kind, .int .i64 t.n, .int .u64 t.u, .string t.s] 29)
        have hR' := hR.alloc (.cells #[.int .i64 t.kind, .int .i64 t.n, .int .u64 t.u, .string t.s] 29)
        have hb' := hb.alloc (Nat.le_of_lt hsz) (.cells #[.int .i64 t.kind, .int .i64 t.n, .int .u64 t.u, .string t.s] 29)
        have hgl := hR.lt
        have hur : ∀ j, u.ownBlock = some j → j < wr.heap.size := fun j hj => (hW.row.lt j hj).2
        clear hW hR hb
        go_wp2_with fail
        refine (put_any w.heap.size w.heap.size u _ t _ hW' (by simp; omega) htok.1 htok.2 (by omega)).mono ?_
        rintro e w2 ⟨rfl, u2, hW2, hK2⟩
        have hR2 := hR'.kept hK2 hgw hug
        have b2 := hK2.below hW' hb' (by simp; omega)
        have hug2 : u2.ownBlock ≠ some g := fun e => by
          rcases hK2.own g e with h1 | h1
          · exact hug h1
          · simp at h1; omega
        have htb := th_block ((hK2.block wr.heap.size (by simp) (by omega) (fun e => by have := hur _ e.symm; omega)).trans (heap_alloc_new wr _))
        obtain ⟨q0, q1, q2, q3⟩ := htb
        have s2 := hW2.lt
        clear hK2 hW' hR' hb'
        go_wp2_with fail
        refine (write_any t _ htok.1 htok.2).mono ?_
        rintro e w3 ⟨rfl, hb3⟩
        have hR3 := hR2.below hb3
        have hW3 := hW2.below hb3
        have b3 := b2.trans (hb3.mono (by omega))
        clear hb3 hW2 hR2 b2 q0 q1 q2 q3 g0 g1 g2 g3
        go_wp2
        go_roundw
        case rel => exact ⟨k + 1, u2, hlt, by rw [HS.out, str_append], by go_num, by rw [HS.out]; exact hW3, hR3, hug2, b3⟩
        case measure => simp [intOf]; omega
      · have HE : Hid (us.take k = us) := List.take_of_length_le (by omega)
        go_wp2_with fail
        refine (cawake_any wr).mono ?_
        rintro e w2 ⟨rfl, hb2⟩
        have hW2 := hW.below hb2
        have b2 := hb.trans (hb2.mono (by omega))
        clear hb2 hW hb
        go_wp2_with fail
        refine (bytes_any w.heap.size w.heap.size _ _ w2 hW2).mono ?_
        rintro e w' ⟨rfl, hw'⟩
        rw [hw']
        clear hw' w'
        go_wp2
        go_ret
        exact ⟨ret_b (by simp), b2⟩

/-! ### The row's step -/
set_option maxRecDepth 100000 in
theorem lifted (os : Os) (started : os.Started) (H : Type) (enc : TypeId × Value → H) :
    ReturnsInHanded {} Try.checked os 3 .any (Rows.codeWritesSpec.pre6 enc Try.prog Try.f3 Rows.codeWritesRow.domain false) (Rows.codeWritesSpec.post enc Try.prog Try.f3 false true false false) := by
  refine returnsInHanded_of_change (C := Try.checked) own started (by kernel_rfl) Try.func3
    (ChangeSpec.witness6 (enc := enc) (C := Try.checked) false ⟨#[], #[.slice none 0 0], []⟩ 8 (by kernel_rfl) (by kernel_rfl) (by kernel_rfl) (by kernel_rfl)) ?_
  intro W base args ds gs before hval0 hW hcnd _
  have hval : ∀ (j : Nat) t v, Try.f3.params[j]? = some t → args[j]? = some v → Value.okWide Try.prog W .any base t v := hval0
  have hW' := hW
  obtain ⟨p, q, hA0, hV, rfl, hfz, hnd⟩ := hW
  have hA : DataW.TrodAll enc Try.prog W 0 (fun _ => true) true Try.f3.params.toList args.toList ds p := hA0
  rw [Try.params3] at hA hval
  obtain ⟨v0, vs0, d0, ds0, p0, q0, hargs, rfl, rfl, h0, r0⟩ := trodAll_cons hA
  obtain ⟨rfl, rfl, rfl⟩ := trodAll_nil r0
  obtain rfl : args = #[v0] := by cases args; simp_all
  obtain ⟨rfl, rfl⟩ := trodVars_none hV
  obtain ⟨a0, len0, cap0, rfl⟩ := okWide_slice Try.underlying22 (hval 0 22 v0 rfl rfl)
  have k0 := h0
  have lt0 : ∀ x ∈ p0, x.block < W.heap.size := by obtain ⟨m, hm⟩ := k0; exact DataW.trod_lt m _ _ _ hm
  obtain ⟨t0, w0⟩ : ∃ ts, IsThings W a0 len0 cap0 ts := by
    obtain ⟨fuel, hf⟩ := h0
    exact things_of hf
  clear hA0 hval0
  refine (walk a0 len0 cap0 t0 W w0).mono fun e W' ⟨he, bel⟩ => ?_
  subst he
  exact ⟨_, rfl, _, _, _, [], _, [], hW', trodAll_mk1 (shut_bool Try.underlying4 _), (trodAll_cons_mk (Below.trod laidOut (by kernel_rfl) (of_decide_eq_true (by kernel_rfl)) k0 bel lt0) trodAll_mk0), rfl, bel.frame _, fun h => by cases h⟩

theorem over : Rows.codeWritesRow.holds Try.pinned (OpenSpec.ofChange Rows.codeWritesSpec) :=
  OpenClaim.holds_of_wide 3 Try.f3 rfl rfl rfl rfl rfl rfl rfl ⟨rfl, rfl, rfl, rfl, rfl⟩ rfl rfl rfl rfl rfl (by kernel_rfl) Try.func3 (by kernel_rfl)
    (of_decide_eq_true (by kernel_rfl)) (by unfold Func.isWrapper; first | (rw [if_pos (by decide +kernel)]; kernel_rfl) | (rw [if_neg (by decide +kernel)]; exact ⟨rfl, rfl⟩))
    (fun os started H enc _ => lifted os started H enc)

end Go.Proofs.Ythadgekojenpjaa.codeWrites

namespace Go.Proofs.Ythadgekojenpjaa
/-- Proved: for every list of things, CodeWrites answers true (the first 40 things, their texts cut to 200 bytes, are written as the document says). -/
theorem codeWrites_holds : Rows.CodeWritesSaid := codeWrites.over
#print axioms codeWrites_holds
end Go.Proofs.Ythadgekojenpjaa
