/- Proved: for every list of addresses and every address, BagPurged answers true (of the first 40 packets all to the address leave together, those to others stay, in order).
  The frame is the guide's own shell (proof-skeleton.mjs) at this function; the walk and all ahead of it are mine. -/
import Derived.Test.YtcclfibojmfjgaaRows
import Derived.Test.YtcclfibojmfjgaaBagPurge3
import Derived.Test.YtcclfibojmfjgaaRowsIn
import Derived.WalkKit
import Derived.WalkLawsBesides
import Derived.ProofKit
import Derived.OpenShut
import Derived.ShutString
import Derived.ChangeOld
import Derived.Below
namespace Go.Proofs.Ytcclfibojmfjgaa.bagPurged
open Go.ChangeShapes Go.WideShapes Go.ChangeAt Go.RowKit
open Go.ChangeMaps (open_string shut_string)
set_option linter.unusedVariables false

theorem own : ownKnob Try.prog.godebug = none := by kernel_rfl
theorem laidOut : laidOutB Try.prog = true := by kernel_rfl

/-- WHAT THE WALK IS TOLD OF A SLICE OF INTEGERS THAT CAME IN: it is nil; or it leads to a row of 'cap' cells, the numbers 'zs' (the first 'len' are its elements, the rest its spare room), each fitting its kind. -/
def IsRow (k : IntKind) (w : World) (a : Option Addr) (len cap : Nat) (zs : List Int) : Prop :=
  (a = none ∧ len = 0 ∧ cap = 0 ∧ zs = []) ∨
  ∃ x, a = some x ∧ len ≤ cap ∧ cap ≤ maxLen ∧ zs.length = cap ∧ (∀ i, i < zs.length → w.cell? (x.add i) = some (.int k (zs.getD i 0))) ∧ ∀ n ∈ zs, (Lit.int k n).wf = true


def PG (at' : Int) (i n : Nat) (g : Bg) : Prop := g.ok ∧ g.ps.length = i ∧ g.last = i ∧ (g.purge at').ps.length + n = i
theorem pg_zero (at' : Int) : PG at' 0 0 bg0 := ⟨bg0_ok, rfl, rfl, rfl⟩
theorem pg_hit {at' : Int} {i n : Nat} {g : Bg} (h : PG at' i n g) (hi : i < 40) (s : ByteArray) (hs : s.size ≤ 2000) (ha : i64 at') : PG at' (i + 1) (n + 1) (g.add i at' s) := by
  obtain ⟨a, b, c, d⟩ := h
  refine ⟨a.add _ _ s hs (by omega) (i64_small _ (by omega) (by omega)) ha, ?_, ?_, ?_⟩
  · show (g.ps ++ [_]).length = _; simp [b]
  · show g.last + 1 = _; rw [c]; simp
  · have e : (g.add i at' s).purge at' = ⟨(g.purge at').ps, g.last + 1⟩ := by simp [Bg.purge, Bg.add, List.filter_append]
    rw [e]; show (g.purge at').ps.length + (n + 1) = _; omega
theorem pg_miss {at' x : Int} {i n : Nat} {g : Bg} (h : PG at' i n g) (hi : i < 40) (s : ByteArray) (hs : s.size ≤ 2000) (hx : i64 x) (hne : x ≠ at') : PG at' (i + 1) n (g.add i x s) := by
  obtain ⟨a, b, c, d⟩ := h
  refine ⟨a.add _ _ s hs (by omega) (i64_small _ (by omega) (by omega)) hx, ?_, ?_, ?_⟩
  · show (g.ps ++ [_]).length = _; simp [b]
  · show g.last + 1 = _; rw [c]; simp
  · have e : ((g.add i x s).purge at').ps.length = (g.purge at').ps.length + 1 := by simp [Bg.purge, Bg.add, List.filter_append, hne]
    omega
theorem purge_twice (g : Bg) (at' : Int) : (g.purge at').purge at' = g.purge at' := by simp [Bg.purge, List.filter_filter]
theorem purge_no (g : Bg) (at' : Int) (p : Pk) (h : p ∈ (g.purge at').ps) : p.dst ≠ at' := by
  have := (List.mem_filter.1 h).2
  simpa using this
/-! ### STEP 1: THE WALK: the Go text returns true, AND WRITES NOTHING THAT WAS THERE: 'Below w.heap.size w w'' (Derived/Below.lean: '.refl', '.alloc', '.drew', '.setCell' at a new block, '.trans'). Open each 'IsRow' by 'rcases' AHEAD of 'go_enter'; part every test ahead of the walk. -/
set_option maxRecDepth 100000 in
set_option maxHeartbeats 2000000 in
theorem walk (a0 : Option Addr) (len0 cap0 : Nat) (z0 : List Int) (a1 : Int) (w : World) (w0 : IsRow .i64 w a0 len0 cap0 z0) (w1 : (Lit.int .i64 a1).wf = true) :
    Calls Try.prog 5 #[.slice a0 len0 cap0, .int .i64 a1] w fun e w' => e = .returned (.bool true) ∧ Below w.heap.size w w' := by
  have x1 := bounds_i64 w1
  obtain ⟨hin, hmax⟩ := ints_of w0
  have HX : Hid (i64 a1 ∧ (len0 = 0 ∨ ∃ b o, a0 = some ⟨b, o, none⟩ ∧ b < w.heap.size ∧ ∀ j, j < len0 → w.cell? ⟨b, o + j, none⟩ = some (.int .i64 (z0.getD j 0)) ∧ i64 (z0.getD j 0))) := ⟨x1, hin⟩
  clear w0 w1 x1 hin
  go_enter Try.func5, Try.ntmps5
  go_wp2
  go_loopw [6, 7] (fun x y wr => ∃ (n i : Nat) (g : Bg) (v : Value), x = .int .i64 n ∧ y = .int .i64 i ∧ n ≤ i ∧ i ≤ len0 ∧ i ≤ 40 ∧ Hid (PG a1 i n g ∧ BagAt w.heap.size wr w.heap.size v g ∧ Below w.heap.size w wr)) (fun _ y _ => 40 - (intOf y).toNat)
  case atStart => exact ⟨0, 0, bg0, _, rfl, rfl, Nat.le_refl _, Nat.zero_le _, Nat.zero_le _, (⟨pg_zero a1, BagAt.new w _ (Nat.le_refl _), (Below.refl _ _).alloc (Nat.le_refl _) _⟩ : PG a1 0 0 bg0 ∧ BagAt w.heap.size _ w.heap.size _ bg0 ∧ Below w.heap.size w _)⟩
  case round =>
    obtain ⟨n, i, g, v, rfl, rfl, hni, hil, hi40, H⟩ := hrel
    by_cases hlt : i < len0 ∧ i < 40
    · obtain ⟨hl1, hl2⟩ := hlt
      obtain ⟨b, o, ha, hb, hcells⟩ := HX.out.2.resolve_left (by omega)
      subst ha
      obtain ⟨hP, hA, hB⟩ := H.out
      obtain ⟨hc, hx⟩ := hcells i hl1
      obtain ⟨x, hxd⟩ : ∃ x, x = z0.getD i 0 := ⟨_, rfl⟩
      rw [← hxd] at hc hx
      have hcw := (bcell hB b (o + i) hb).trans hc
      have hi0 : (0 : Int) ≤ (i : Int) := Int.natCast_nonneg _
      have hi1 : (i : Int) < (len0 : Int) := by omega
      have hi2 : (i : Int) < 40 := by omega
      have hs := send_ok w.heap.size w.heap.size v g i x { data := #[120] } wr hA hB.size (by decide) (by rw [hP.2.1]; omega) hP.1.lo (by rw [hP.2.2.1]; omega)
      have HS : Hid (PG a1 i n g ∧ BagAt w.heap.size wr w.heap.size v g ∧ Below w.heap.size w wr ∧ i64 x ∧ b < w.heap.size ∧ w.cell? ⟨b, o + i, none⟩ = some (.int .i64 x)) := ⟨hP, hA, hB, hx, hb, hc⟩
      obtain ⟨m, hm⟩ : ∃ m, m = g.last + 1 := ⟨_, rfl⟩
      rw [← hm] at hs
      clear hP hA hB hc hxd hcells hm H hx hb
      go_wp2_with fail
      refine hs.mono ?_
      rintro e w2 ⟨rfl, v2, h2, k2⟩
      have hc2 : w2.cell? ⟨b, o + i, none⟩ = some (.int .i64 x) := (bcell (k2.belowB HS.out.2.1 HS.out.2.2.1 HS.out.2.2.1.size) b (o + i) HS.out.2.2.2.2.1).trans HS.out.2.2.2.2.2
      have H2 : Hid (BagAt w.heap.size w2 w.heap.size v2 (g.add i x { data := #[120] }) ∧ Below w.heap.size w w2) := ⟨h2, k2.belowB HS.out.2.1 HS.out.2.2.1 HS.out.2.2.1.size⟩
      clear h2 k2 hs
      by_cases hd : x = a1
      · subst hd
        go_wp2
        go_roundw
        case rel => exact ⟨n + 1, i + 1, _, v2, by go_num, by go_num, by omega, by omega, by omega, (⟨pg_hit HS.out.1 hl2 _ (by decide) HX.out.1, H2.out⟩ : PG x (i + 1) (n + 1) _ ∧ _ ∧ _)⟩
        case measure => simp [intOf]; omega
      · have hd' : (x == a1) = false := by simpa using hd
        have HD : Hid (x ≠ a1) := hd
        clear hd
        go_wp2
        go_roundw
        case rel => exact ⟨n, i + 1, _, v2, rfl, by go_num, by omega, by omega, by omega, (⟨pg_miss HS.out.1 hl2 _ (by decide) HS.out.2.2.2.1 HD.out, H2.out⟩ : PG a1 (i + 1) n _ ∧ _ ∧ _)⟩
        case measure => simp [intOf]; omega
    · have him : (i : Int) = min (len0 : Int) 40 := by omega
      have HM : Hid ((i : Int) = min (len0 : Int) 40) := him
      have hor : (True ∧ ¬ (i : Int) < (len0 : Int)) ∨ ((i : Int) < (len0 : Int) ∧ ¬ (i : Int) < 40) := by
        by_cases q : (i : Int) < (len0 : Int)
        · exact .inr ⟨q, by omega⟩
        · exact .inl ⟨trivial, q⟩
      obtain ⟨hP, hA, hB⟩ := H.out
      have hpu := purge_any w.heap.size w.heap.size v g a1 wr hA hP.1
      rw [show (g.ps.length : Int) - ((g.purge a1).ps.length : Int) = (n : Int) by have := hP.2.1; have := hP.2.2.2; omega] at hpu
      have HP : Hid (PG a1 i n g ∧ BagAt w.heap.size wr w.heap.size v g ∧ Below w.heap.size w wr) := H
      clear hP hA hB him hlt H
      rcases hor with ⟨hor', hor⟩ | ⟨hor', hor⟩
      all_goals
        go_wp2_with fail
        refine hpu.mono ?_
        rintro e w2 ⟨rfl, v2, h2, k2⟩
        have hpu2 := purge_any w.heap.size w.heap.size v2 (g.purge a1) a1 w2 h2 (HP.out.1.1.purge a1)
        rw [purge_twice, Int.sub_self] at hpu2
        have H2 : Hid (BagAt w.heap.size w2 w.heap.size v2 (g.purge a1) ∧ Below w.heap.size w w2) := ⟨h2, k2.belowB HP.out.2.1 HP.out.2.2 HP.out.2.2.size⟩
        clear h2 k2 hpu
        go_wp2_with fail
        refine hpu2.mono ?_
        rintro e w3 ⟨rfl, v3, h3, k3⟩
        have H3 : Hid (BagAt w.heap.size w3 w.heap.size v3 (g.purge a1) ∧ Below w.heap.size w w3) := ⟨h3, k3.belowB H2.out.1 H2.out.2 H2.out.2.size⟩
        have hall := all_any w.heap.size w.heap.size v3 (g.purge a1) w3 h3 (HP.out.1.1.purge a1).len
        clear h3 k3 hpu2 H2
        go_wp2_with fail
        refine hall.mono ?_
        rintro e w4 ⟨v4, rfl, hrow, hb4⟩
        obtain ⟨L, hL⟩ : ∃ L, L = (g.purge a1).ps := ⟨_, rfl⟩
        rw [← hL] at hrow
        have HL : Hid (L = (g.purge a1).ps) := hL
        have hLl : L.length ≤ 4000 := by rw [hL]; exact (HP.out.1.1.purge a1).len
        have H4 : Hid (BagAt w.heap.size w4 w.heap.size v3 (g.purge a1) ∧ Below w.heap.size w w4) := ⟨H3.out.1.below hb4, H3.out.2.trans (hb4.mono H3.out.2.size)⟩
        have HF : Hid (L.length + n = i ∧ Rising L ∧ ∀ p ∈ L, p.dst ≠ a1 ∧ 1 ≤ p.id) := by
          have hok := HP.out.1.1.purge a1
          refine ⟨by rw [hL]; exact HP.out.1.2.2.2, by rw [hL]; exact hok.rise, fun p hp => ?_⟩
          rw [hL] at hp
          exact ⟨purge_no g a1 p hp, (hok.all p hp).lo⟩
        have hsh : ∃ a c, v4 = .slice a L.length c ∧ (0 < L.length → ∃ gg, a = some ⟨gg, 0, none⟩ ∧ PkRow w4 gg L) := by
          rcases pkrow_of hrow with ⟨a, c, e1, e2⟩ | ⟨gg, c, e1, _, _, R, _⟩
          · exact ⟨a, c, by rw [e1, e2]; rfl, fun h => by rw [e2] at h; simp at h⟩
          · exact ⟨_, c, e1, fun _ => ⟨gg, rfl, R⟩⟩
        obtain ⟨a4, c4, rfl, hsh⟩ := hsh
        have HSH : Hid (0 < L.length → ∃ gg, a4 = some ⟨gg, 0, none⟩ ∧ PkRow w4 gg L) := hsh
        clear hL hsh hb4 hrow hall H3
        go_wp2
        go_loopw [10, 53] (fun x y wr => ∃ (j : Nat) (z : Int), x = .int .i64 z ∧ y = .int .i64 j ∧ j ≤ L.length ∧ (0 : Int) ≤ z ∧ Hid ((∀ t, j ≤ t → t < L.length → z < (L.getD t pk0).id) ∧ BagAt w.heap.size wr w.heap.size v3 (g.purge a1) ∧ Below w.heap.size w wr ∧ (0 < L.length → ∃ gg, a4 = some ⟨gg, 0, none⟩ ∧ PkRow wr gg L))) (fun _ y _ => L.length - (intOf y).toNat)
        case atStart => exact ⟨0, 0, rfl, rfl, Nat.zero_le _, Int.le_refl _, (⟨fun t _ ht => by have := (HF.out.2.2 _ (getD_mem L t ht)).2; omega, H4.out.1, H4.out.2, HSH.out⟩ : (∀ t, 0 ≤ t → t < L.length → (0 : Int) < (L.getD t pk0).id) ∧ BagAt _ _ _ _ _ ∧ Below _ _ _ ∧ _)⟩
        case round =>
          obtain ⟨j, z, rfl, rfl, hjl, hz, H5⟩ := hrel
          by_cases hlt2 : j < L.length
          · obtain ⟨hlo, hA, hB, hR⟩ := H5.out
            obtain ⟨gg, ha4, R⟩ := hR (by omega)
            subst ha4
            have hj0 : (0 : Int) ≤ (j : Int) := Int.natCast_nonneg _
            have hj1 : (j : Int) < (L.length : Int) := by omega
            have s0 := R.c0 j hlt2
            have s1 := R.c1 j hlt2
            have s2 := R.c2 j hlt2
            have s3 := R.c3 j hlt2
            have hlo' := hlo j (Nat.le_refl _) hlt2
            have hdn := (HF.out.2.2 _ (getD_mem L j hlt2)).1
            obtain ⟨q, hq⟩ : ∃ q, q = L.getD j pk0 := ⟨_, rfl⟩
            rw [← hq] at s0 s1 s2 s3 hlo' hdn
            have hdn' : (q.dst == a1) = false := by simpa using hdn
            have hlo2 : ¬ q.id ≤ z := by omega
            have HQ : Hid (q = L.getD j pk0 ∧ z < q.id) := ⟨hq, hlo'⟩
            clear hq hlo hA hB hR R hdn hlo'
            go_wp2
            go_roundw
            case rel =>
              refine ⟨j + 1, q.id, rfl, by go_num, by omega, by have := HQ.out.2; omega, (⟨fun t ht htl => ?_, H5.out.2.1.alloc _, H5.out.2.2.1.alloc H5.out.2.2.1.size _, fun h => ?_⟩ : (∀ t, j + 1 ≤ t → t < L.length → q.id < (L.getD t pk0).id) ∧ BagAt _ _ _ _ _ ∧ Below _ _ _ ∧ _)⟩
              · rw [HQ.out.1]; exact rising_lt HF.out.2.1 (by omega) htl
              · obtain ⟨g', e1, e2⟩ := H5.out.2.2.2 h
                exact ⟨g', e1, e2.alloc _⟩
            case measure => simp [intOf]; omega
          · obtain rfl : j = L.length := by omega
            go_wp2_with (first
              | (go_at_call 11; refine (bawake_any _).mono ?_; rintro e w8 ⟨rfl, hb8⟩)
              | (go_at_call 13; refine (len_any w.heap.size w.heap.size v3 (g.purge a1) _ (H5.out.2.1.below hb8)).mono ?_; rintro e w' ⟨rfl, rfl⟩))
            all_goals
              go_ret
              refine ⟨ret_b ?_, H5.out.2.2.1.trans (hb8.mono H5.out.2.2.1.size)⟩
              have e1 : ((g.purge a1).ps.length : Int) + n = i := by have := HP.out.1.2.2.2; omega
              have e2 := HM.out
              simp
              omega

/-! ### THE ROW's STEP: WRITTEN OUT: LEAVE IT -/
set_option maxRecDepth 100000 in
theorem lifted (os : Os) (started : os.Started) (H : Type) (enc : TypeId × Value → H) :
    ReturnsInHanded {} Try.checked os 5 .any (Rows.bagPurgedSpec.pre6 enc Try.prog Try.f5 Rows.bagPurgedRow.domain false) (Rows.bagPurgedSpec.post enc Try.prog Try.f5 false true false false) := by
  refine returnsInHanded_of_change (C := Try.checked) own started (by kernel_rfl) Try.func5
    (ChangeSpec.witness6 (enc := enc) (C := Try.checked) false ⟨#[], #[.slice none 0 0, .int .i64 0], []⟩ 8 (by kernel_rfl) (by kernel_rfl) (by kernel_rfl) (by kernel_rfl)) ?_
  intro W base args ds gs before hval0 hW hcnd _
  have hval : ∀ (j : Nat) t v, Try.f5.params[j]? = some t → args[j]? = some v → Value.okWide Try.prog W .any base t v := hval0
  have hW' := hW
  obtain ⟨p, q, hA0, hV, rfl, hfz, hnd⟩ := hW
  have hA : DataW.TrodAll enc Try.prog W 0 (fun _ => true) true Try.f5.params.toList args.toList ds p := hA0
  rw [Try.params5] at hA hval
  obtain ⟨v0, vs0, d0, ds0, p0, q0, hargs, rfl, rfl, h0, r0⟩ := trodAll_cons hA
  obtain ⟨v1, vs1, d1, ds1, p1, q1, rfl, rfl, rfl, h1, r1⟩ := trodAll_cons r0
  obtain ⟨rfl, rfl, rfl⟩ := trodAll_nil r1
  obtain rfl : args = #[v0, v1] := by cases args; simp_all
  obtain ⟨rfl, rfl⟩ := trodVars_none hV
  obtain ⟨a0, len0, cap0, rfl⟩ := okWide_slice Try.underlying23 (hval 0 23 v0 rfl rfl)
  have k0 := h0
  have lt0 : ∀ x ∈ p0, x.block < W.heap.size := by obtain ⟨m, hm⟩ := k0; exact DataW.trod_lt m _ _ _ hm
  obtain ⟨z0, w0⟩ : ∃ zs, IsRow .i64 W a0 len0 cap0 zs := by
    obtain ⟨fuel, hf⟩ := h0
    rcases open_ints Try.underlying23 Try.underlying3 (by kernel_rfl) hf with ⟨hcs, _⟩ | ⟨x, l, c, zs, hcs, _, hl, hm, hz, _, hcell, hwz⟩
    · simp [Value.cells] at hcs
      obtain ⟨rfl, rfl, rfl⟩ := hcs
      exact ⟨[], .inl ⟨rfl, rfl, rfl, rfl⟩⟩
    · simp [Value.cells] at hcs
      obtain ⟨rfl, rfl, rfl⟩ := hcs
      exact ⟨zs, .inr ⟨_, rfl, hl, hm, by simpa using hz, hcell, hwz⟩⟩
  obtain ⟨a1, rfl, rfl, rfl, w1⟩ := open_int Try.underlying3 (hval 1 3 v1 rfl rfl) h1
  clear hA0 hval0
  refine (walk a0 len0 cap0 z0 a1 W w0 w1).mono fun e W' ⟨he, bel⟩ => ?_
  subst he
  exact ⟨_, rfl, _, _, _, [], _, [], hW', trodAll_mk1 (shut_bool Try.underlying4 _), (trodAll_cons_mk (Below.trod laidOut (by kernel_rfl) (of_decide_eq_true (by kernel_rfl)) k0 bel lt0) (trodAll_cons_mk (shut_int Try.underlying3 w1) trodAll_mk0)), rfl, bel.frame _, fun h => by cases h⟩

theorem over : Rows.bagPurgedRow.holds Try.pinned (OpenSpec.ofChange Rows.bagPurgedSpec) :=
  OpenClaim.holds_of_wide 5 Try.f5 rfl rfl rfl rfl rfl rfl rfl ⟨rfl, rfl, rfl, rfl, rfl⟩ rfl rfl rfl rfl rfl (by kernel_rfl) Try.func5 (by kernel_rfl)
    (of_decide_eq_true (by kernel_rfl)) (by unfold Func.isWrapper; first | (rw [if_pos (by decide +kernel)]; kernel_rfl) | (rw [if_neg (by decide +kernel)]; exact ⟨rfl, rfl⟩))
    (fun os started H enc _ => lifted os started H enc)

end Go.Proofs.Ytcclfibojmfjgaa.bagPurged

namespace Go.Proofs.Ytcclfibojmfjgaa
/-- Proved: for every list of addresses and every address, BagPurged answers true (of the first 40 packets all to the address leave together, those to others stay, in order). -/
theorem bagPurged_holds : Rows.BagPurgedSaid := bagPurged.over
#print axioms bagPurged_holds
end Go.Proofs.Ytcclfibojmfjgaa
