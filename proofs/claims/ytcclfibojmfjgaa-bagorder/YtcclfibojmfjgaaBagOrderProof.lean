/- Proved: for every list of calls, BagOrder answers true (packets lie in the bag in the order in which they came, whatever leaves in between; of any 40 calls that send, take and copy).
  The frame is the guide's own shell (proof-skeleton.mjs) at this function; the walk and all ahead of it are mine. -/
import Derived.Test.YtcclfibojmfjgaaRows
import Derived.Test.YtcclfibojmfjgaaBagAwake
import Derived.Test.YtcclfibojmfjgaaInRow
import Derived.WalkKit
import Derived.WalkLawsBesides
import Derived.ProofKit
import Derived.OpenShut
import Derived.ShutString
import Derived.ChangeOld
import Derived.Below
namespace Go.Proofs.Ytcclfibojmfjgaa.bagOrder
open Go.ChangeShapes Go.WideShapes Go.ChangeAt Go.RowKit
open Go.ChangeMaps (open_string shut_string)
set_option linter.unusedVariables false

theorem own : ownKnob Try.prog.godebug = none := by kernel_rfl
theorem laidOut : laidOutB Try.prog = true := by kernel_rfl


/-- The bag behind at most i calls. -/
def Stt (i : Nat) (w wr : World) : Prop := ∃ (g : Bg) (v : Value), g.ok ∧ g.ps.length ≤ i ∧ g.last ≤ i ∧ BagAt w.heap.size wr w.heap.size v g ∧ Below w.heap.size w wr
theorem Stt.alloc {i : Nat} {w wr : World} (h : Stt i w wr) (o : Obj) : Stt i w (wr.alloc o) := by
  obtain ⟨g, v, a, b, c, d, e⟩ := h
  exact ⟨g, v, a, b, c, d.alloc o, e.alloc e.size o⟩
theorem Stt.below {i : Nat} {w wr w' : World} (h : Stt i w wr) (hb : Below wr.heap.size wr w') : Stt i w w' := by
  obtain ⟨g, v, a, b, c, d, e⟩ := h
  exact ⟨g, v, a, b, c, d.below hb, e.trans (hb.mono e.size)⟩
theorem Stt.up {i : Nat} {w wr : World} (h : Stt i w wr) : Stt (i + 1) w wr := by
  obtain ⟨g, v, a, b, c, d, e⟩ := h
  exact ⟨g, v, a, by omega, by omega, d, e⟩
theorem Stt.bel {i : Nat} {w wr : World} (h : Stt i w wr) : Below w.heap.size w wr := h.choose_spec.choose_spec.2.2.2.2
theorem o_send {i : Nat} {w wr : World} (h : Stt i w wr) (hi : i < 100) (x y : Int) (s : ByteArray) (hx : i64 x) (hy : i64 y) (hs : s.size ≤ 2000) :
    Calls Try.prog 8 #[.pointer (some ⟨w.heap.size, 0, none⟩), .int .i64 x, .int .i64 y, .string s] wr fun e w' => (∃ a b, e = .returned (.tuple #[a, b])) ∧ Stt (i + 1) w w' := by
  obtain ⟨g, v, a, b, c, d, e⟩ := h
  refine (send_ok _ _ v g x y s wr d e.size hs (by omega) a.lo (by omega)).mono ?_
  rintro e' w' ⟨rfl, v', hA', hK⟩
  refine ⟨⟨_, _, rfl⟩, _, v', a.add x y s hs (by omega) hx hy, ?_, ?_, hA', hK.belowB d e e.size⟩
  · show (g.ps ++ [_]).length ≤ _; simp; omega
  · show g.last + 1 ≤ _; omega
theorem o_take {i : Nat} {w wr : World} (h : Stt i w wr) (id : Int) :
    Calls Try.prog 9 #[.pointer (some ⟨w.heap.size, 0, none⟩), .int .i64 id] wr fun e w' => (∃ a b, e = .returned (.tuple #[a, b])) ∧ Stt (i + 1) w w' := by
  obtain ⟨g, v, a, b, c, d, e⟩ := h
  rcases at_or g.ps id with ⟨k, hk, hid⟩ | hno
  · refine (take_hit _ _ v g id k wr d a hk hid).mono ?_
    rintro e' w' ⟨rfl, v', hA', hK⟩
    refine ⟨⟨_, _, rfl⟩, _, v', a.del k, ?_, ?_, hA', hK.belowB d e e.size⟩
    · show (g.ps.eraseIdx k).length ≤ _; rw [List.length_eraseIdx_of_lt hk]; omega
    · show g.last ≤ _; omega
  · refine (take_miss _ _ v g id wr d a hno).mono ?_
    rintro e' w' ⟨rfl, hb⟩
    exact ⟨⟨_, _, rfl⟩, g, v, a, by omega, by omega, d.below hb, e.trans (hb.mono e.size)⟩
theorem o_copy {i : Nat} {w wr : World} (h : Stt i w wr) (hi : i < 100) (id : Int) :
    Calls Try.prog 12 #[.pointer (some ⟨w.heap.size, 0, none⟩), .int .i64 id] wr fun e w' => (∃ a b, e = .returned (.tuple #[a, b])) ∧ Stt (i + 1) w w' := by
  obtain ⟨g, v, a, b, c, d, e⟩ := h
  rcases at_or g.ps id with ⟨k, hk, hid⟩ | hno
  · have hq := a.all _ (getD_mem g.ps k hk)
    refine (copy_ok _ _ v g id k wr d e.size a hk hid (by omega) (by omega)).mono ?_
    rintro e' w' ⟨rfl, v', hA', hK⟩
    refine ⟨⟨_, _, rfl⟩, _, v', a.add _ _ _ hq.s (by omega) hq.src hq.dst, ?_, ?_, hA', hK.belowB d e e.size⟩
    · show (g.ps ++ [_]).length ≤ _; simp; omega
    · show g.last + 1 ≤ _; omega
  · refine (copy_miss _ _ v g id wr d a hno).mono ?_
    rintro e' w' ⟨rfl, hb⟩
    exact ⟨⟨_, _, rfl⟩, g, v, a, by omega, by omega, d.below hb, e.trans (hb.mono e.size)⟩
/-- A row that was handed back: of rising numbers. -/
def RowAt (w : World) (a : Option Addr) (L : List Pk) : Prop := 0 < L.length → ∃ gg, a = some ⟨gg, 0, none⟩ ∧ PkRow w gg L
theorem RowAt.below {w w' : World} {a : Option Addr} {L : List Pk} (h : RowAt w a L) (hb : Below w.heap.size w w') : RowAt w' a L := fun h0 => by
  obtain ⟨gg, e, R⟩ := h h0
  exact ⟨gg, e, R.below hb⟩
theorem RowAt.drewN {w : World} {a : Option Addr} {L : List Pk} (h : RowAt w a L) (n : Nat) : RowAt (w.drewN n) a L := h.below ⟨rfl, rfl, rfl, Nat.le_refl _, fun _ _ => rfl⟩
theorem Stt.drewN {i : Nat} {w wr : World} (h : Stt i w wr) (n : Nat) : Stt i w (wr.drewN n) := h.below ⟨rfl, rfl, rfl, Nat.le_refl _, fun _ _ => rfl⟩
def Fin7 (x : Int) (w wr : World) : Prop := ∃ (g : Bg) (v : Value) (L : List Pk), g.ok ∧ g.ps = L ++ [⟨x, 7, 8, { data := #[120] }⟩] ∧ g.ps.length ≤ 100 ∧ BagAt w.heap.size wr w.heap.size v g ∧ Below w.heap.size w wr
theorem o_last {i : Nat} {w wr : World} (h : Stt i w wr) (hi : i < 50) :
    Calls Try.prog 8 #[.pointer (some ⟨w.heap.size, 0, none⟩), .int .i64 7, .int .i64 8, .string { data := #[120] }] wr fun e w' => ∃ x, e = .returned (.tuple #[.int .i64 x, .nilIface]) ∧ Fin7 x w w' := by
  obtain ⟨g, v, a, b, c, d, e⟩ := h
  refine (send_ok _ _ v g 7 8 { data := #[120] } wr d e.size (by decide) (by omega) a.lo (by omega)).mono ?_
  rintro e' w' ⟨rfl, v', hA', hK⟩
  refine ⟨_, rfl, _, v', g.ps, a.add 7 8 _ (by decide) (by omega) (i64_small _ (by decide) (by decide)) (i64_small _ (by decide) (by decide)), rfl, ?_, hA', hK.belowB d e e.size⟩
  show (g.ps ++ [_]).length ≤ _; simp; omega
theorem o_last_all {x : Int} {w wr : World} (h : Fin7 x w wr) :
    Calls Try.prog 15 #[.pointer (some ⟨w.heap.size, 0, none⟩)] wr fun e w' => ∃ (gg c n : Nat), e = .returned (.slice (some ⟨gg, 0, none⟩) (n + 1) c) ∧ n ≤ 100 ∧ w'.cell? ⟨gg, n * 4, none⟩ = some (.int .i64 x) ∧ w'.cell? ⟨gg, n * 4 + 1, none⟩ = some (.int .i64 7) ∧ gg < w'.heap.size ∧ Below w.heap.size w w' := by
  obtain ⟨g, v, L, a, b, c, d, e⟩ := h
  refine (all_any _ _ v g wr d a.len).mono ?_
  rintro e' w' ⟨v', rfl, hrow, hb⟩
  have hl : g.ps.length = L.length + 1 := by rw [b]; simp
  rcases pkrow_of hrow with ⟨a', c', e1, e2⟩ | ⟨gg, c', e1, _, _, R, _⟩
  · rw [e2] at hl; simp at hl
  · have r0 := R.c0 L.length (by omega)
    have r1 := R.c1 L.length (by omega)
    have hq : g.ps.getD L.length pk0 = ⟨x, 7, 8, { data := #[120] }⟩ := by rw [b]; simp [List.getD]
    rw [hq] at r0 r1
    exact ⟨gg, c', L.length, by rw [e1, hl], by omega, r0, r1, R.lt, e.trans (hb.mono e.size)⟩
theorem o_all {i : Nat} {w wr : World} (h : Stt i w wr) :
    Calls Try.prog 15 #[.pointer (some ⟨w.heap.size, 0, none⟩)] wr fun e w' => ∃ (a : Option Addr) (c : Nat) (L : List Pk), e = .returned (.slice a L.length c) ∧ Rising L ∧ L.length ≤ i ∧ RowAt w' a L ∧ Stt i w w' := by
  obtain ⟨g, v, a, b, c, d, e⟩ := h
  refine (all_any _ _ v g wr d a.len).mono ?_
  rintro e' w' ⟨v', rfl, hrow, hb⟩
  have hst : Stt i w w' := ⟨g, v, a, b, c, d.below hb, e.trans (hb.mono e.size)⟩
  rcases pkrow_of hrow with ⟨a', c', e1, e2⟩ | ⟨gg, c', e1, _, _, R, _⟩
  · exact ⟨a', c', g.ps, by rw [e1, e2]; rfl, a.rise, b, fun h0 => by rw [e2] at h0; simp at h0, hst⟩
  · exact ⟨_, c', g.ps, by rw [e1], a.rise, b, fun _ => ⟨gg, rfl, R⟩, hst⟩
/-! ### STEP 1: the walk -/
set_option maxRecDepth 100000 in
set_option maxHeartbeats 2000000 in
theorem walk (a0 : Option Addr) (len0 cap0 : Nat) (t0 : List Ac3) (w : World) (w0 : InRow 4 Ac3.cells Ac3.ok ac0 w a0 len0 t0) :
    Calls Try.prog 7 #[.slice a0 len0 cap0] w fun e w' => e = .returned (.bool true) ∧ Below w.heap.size w w' := by
  have hmax := w0.2.1
  have HX : Hid (InRow 4 Ac3.cells Ac3.ok ac0 w a0 len0 t0) := w0
  clear w0
  go_enter Try.func7, Try.ntmps7
  go_wp2
  go_loopw [4] (fun y wr => ∃ i : Nat, y = .int .i64 i ∧ i ≤ len0 ∧ i ≤ 40 ∧ Hid (Stt i w wr)) (fun y _ => 40 - (intOf y).toNat)
  case atStart => exact ⟨0, rfl, Nat.zero_le _, Nat.zero_le _, (⟨bg0, _, bg0_ok, Nat.le_refl _, Int.le_refl _, BagAt.new w _ (Nat.le_refl _), (Below.refl _ _).alloc (Nat.le_refl _) _⟩ : Stt 0 w _)⟩
  case round =>
    obtain ⟨i, rfl, hil, hi40, H⟩ := hrel
    by_cases hlt : i < len0 ∧ i < 40
    · obtain ⟨hl1, hl2⟩ := hlt
      obtain ⟨b, o, ha, hb, hcells⟩ := HX.out.2.2.resolve_left (by omega)
      subst ha
      obtain ⟨hok, hc⟩ := hcells i hl1
      obtain ⟨t, ht⟩ : ∃ t, t = t0.getD i ac0 := ⟨_, rfl⟩
      rw [← ht] at hok hc
      have hB := H.out.bel
      have s0 := (bcell hB b (o + i * 4 + 0) hb).trans (hc 0 (by omega))
      have s1 := (bcell hB b (o + i * 4 + 1) hb).trans (hc 1 (by omega))
      have s2 := (bcell hB b (o + i * 4 + 2) hb).trans (hc 2 (by omega))
      have s3 := (bcell hB b (o + i * 4 + 3) hb).trans (hc 3 (by omega))
      simp only [Ac3.cells, Nat.add_zero, List.getElem?_cons_zero, List.getElem?_cons_succ] at s0 s1 s2 s3
      have hi0 : (0 : Int) ≤ (i : Int) := Int.natCast_nonneg _
      have hi1 : (i : Int) < (len0 : Int) := by omega
      have hi2 : (i : Int) < 40 := by omega
      have hsz := hok.2.2.2
      have HO : Hid t.ok := hok
      obtain ⟨K, hK⟩ : ∃ K, K = t.kind := ⟨_, rfl⟩
      rw [← hK] at s0
      clear ht hok hc hcells hB hb hK
      have hkk : K = 1 ∨ K = 2 ∨ K = 3 ∨ ((K == 1) = false ∧ (K == 2) = false ∧ (K == 3) = false) := by
        by_cases k1 : K = 1
        · exact .inl k1
        by_cases k2 : K = 2
        · exact .inr (.inl k2)
        by_cases k3 : K = 3
        · exact .inr (.inr (.inl k3))
        · exact .inr (.inr (.inr ⟨by simpa using k1, by simpa using k2, by simpa using k3⟩))
      have hss : (t.s.size ≤ 100) ∨ (100 < t.s.size) := by omega
      rcases hkk with rfl | rfl | rfl | ⟨k1, k2, k3⟩ <;> rcases hss with hss | hss
      all_goals
        go_wp2_with (first
          | (go_at_call 8; refine (o_send (H.out.alloc _) (by omega) _ _ _ HO.out.2.1 HO.out.2.2.1 (by first | omega | (simp; omega))).mono ?_; rintro e w2 ⟨⟨x, y, rfl⟩, h2⟩)
          | (go_at_call 9; refine (o_take (H.out.alloc _) _).mono ?_; rintro e w2 ⟨⟨x, y, rfl⟩, h2⟩)
          | (go_at_call 12; refine (o_copy (H.out.alloc _) (by omega) _).mono ?_; rintro e w2 ⟨⟨x, y, rfl⟩, h2⟩)
          | (go_at_call 15; refine (o_all (by first | exact h2 | exact (H.out.alloc _).up)).mono ?_; rintro e w3 ⟨a3, c3, L, rfl, hr, hl, hR, h3⟩))
      all_goals
        have H3 : Hid (Rising L ∧ RowAt w3 a3 L ∧ Stt (i + 1) w w3) := ⟨hr, hR, h3⟩
        clear hr hR h3
        have hL9 : L.length ≤ 9223372036854775807 := by omega
        try clear h2
        go_loopw [7] (fun y wr => ∃ m : Nat, y = .int .i64 ((m : Int) + 1) ∧ (m = 0 ∨ m + 1 ≤ L.length) ∧ Hid (RowAt wr a3 L ∧ Stt (i + 1) w wr)) (fun y _ => L.length + 1 - (intOf y).toNat)
        case atStart => exact ⟨0, rfl, .inl rfl, H3.out.2⟩
        case round =>
          obtain ⟨m, rfl, hm, H4⟩ := hrel
          by_cases hlt2 : m + 1 < L.length
          · obtain ⟨gg, ha3, R⟩ := H4.out.1 (by omega)
            subst ha3
            have g0 := R.c0 m (by omega)
            have g1 := R.c0 (m + 1) hlt2
            have hrl := rising_lt H3.out.1 (Nat.lt_succ_self m) hlt2
            obtain ⟨q0, hq0⟩ : ∃ q, q = (L.getD m pk0).id := ⟨_, rfl⟩
            obtain ⟨q1, hq1⟩ : ∃ q, q = (L.getD (m + 1) pk0).id := ⟨_, rfl⟩
            rw [← hq0] at g0 hrl
            rw [← hq1] at g1
            have hrl' : q0 < q1 := by rw [hq1]; exact hrl
            have hm0 : (0 : Int) ≤ (m : Int) := Int.natCast_nonneg _
            have hm1 : (m : Int) < (L.length : Int) := by omega
            have hm2 : (m : Int) + 1 < (L.length : Int) := by omega
            have hm3 : (0 : Int) ≤ (m : Int) + 1 := by omega
            have hm4 : ¬ q1 ≤ q0 := by omega
            clear hq0 hq1 hrl R
            go_wp2_with fail
            go_quiet (fail)
            go_wp2
            go_roundw
            case rel => exact ⟨m + 1, by go_num, .inr (by omega), (⟨H4.out.1.drewN _, H4.out.2.drewN _⟩ : RowAt _ _ _ ∧ Stt _ _ _)⟩
            case measure => simp [intOf]; omega
          · have hnl : ¬ (m : Int) + 1 < (L.length : Int) := by omega
            go_wp2
            go_roundw
            case rel => exact ⟨i + 1, by go_num, by omega, by omega, H4.out.2⟩
            case measure => simp [intOf]; omega
    · have hor : (True ∧ ¬ (i : Int) < (len0 : Int)) ∨ ((i : Int) < (len0 : Int) ∧ ¬ (i : Int) < 40) := by
        by_cases q : (i : Int) < (len0 : Int)
        · exact .inr ⟨q, by omega⟩
        · exact .inl ⟨trivial, q⟩
      clear hlt
      rcases hor with ⟨hor', hor⟩ | ⟨hor', hor⟩
      all_goals
        go_wp2_with fail
        refine (o_last H.out (by omega)).mono ?_
        rintro e w2 ⟨x, rfl, h2⟩
        have H2 : Hid (Fin7 x w w2) := h2
        clear h2 H
        go_wp2_with fail
        refine (o_last_all H2.out).mono ?_
        rintro e w3 ⟨gg, c3, n, rfl, hn, r0, r1, hg3, hb3⟩
        have HB3 : Hid (Below w.heap.size w w3) := hb3
        have hn0 : (0 : Int) ≤ (n : Int) := Int.natCast_nonneg _
        have hn1 : (1 : Int) ≤ (n : Int) + 1 := by omega
        have hn2 : (n : Int) < (n : Int) + 1 := by omega
        clear hb3
        go_wp2_with fail
        refine (bawake_any _).mono ?_
        rintro e w4 ⟨rfl, hb4⟩
        have t0 := (bcell hb4 gg (n * 4) hg3).trans r0
        have t1 := (bcell hb4 gg (n * 4 + 1) hg3).trans r1
        have HB4 : Hid (Below w.heap.size w w4) := HB3.out.trans (hb4.mono HB3.out.size)
        clear hb4
        go_wp2
        go_ret
        exact ⟨ret_b (by simp), HB4.out⟩

/-! ### The row's step -/
set_option maxRecDepth 100000 in
theorem lifted (os : Os) (started : os.Started) (H : Type) (enc : TypeId × Value → H) :
    ReturnsInHanded {} Try.checked os 7 .any (Rows.bagOrderSpec.pre6 enc Try.prog Try.f7 Rows.bagOrderRow.domain false) (Rows.bagOrderSpec.post enc Try.prog Try.f7 false true false false) := by
  refine returnsInHanded_of_change (C := Try.checked) own started (by kernel_rfl) Try.func7
    (ChangeSpec.witness6 (enc := enc) (C := Try.checked) false ⟨#[], #[.slice none 0 0], []⟩ 8 (by kernel_rfl) (by kernel_rfl) (by kernel_rfl) (by kernel_rfl)) ?_
  intro W base args ds gs before hval0 hW hcnd _
  have hval : ∀ (j : Nat) t v, Try.f7.params[j]? = some t → args[j]? = some v → Value.okWide Try.prog W .any base t v := hval0
  have hW' := hW
  obtain ⟨p, q, hA0, hV, rfl, hfz, hnd⟩ := hW
  have hA : DataW.TrodAll enc Try.prog W 0 (fun _ => true) true Try.f7.params.toList args.toList ds p := hA0
  rw [Try.params7] at hA hval
  obtain ⟨v0, vs0, d0, ds0, p0, q0, hargs, rfl, rfl, h0, r0⟩ := trodAll_cons hA
  obtain ⟨rfl, rfl, rfl⟩ := trodAll_nil r0
  obtain rfl : args = #[v0] := by cases args; simp_all
  obtain ⟨rfl, rfl⟩ := trodVars_none hV
  obtain ⟨a0, len0, cap0, rfl⟩ := okWide_slice Try.underlying46 (hval 0 46 v0 rfl rfl)
  have k0 := h0
  have lt0 : ∀ x ∈ p0, x.block < W.heap.size := by obtain ⟨m, hm⟩ := k0; exact DataW.trod_lt m _ _ _ hm
  obtain ⟨t0, w0⟩ : ∃ ts, InRow 4 Ac3.cells Ac3.ok ac0 W a0 len0 ts := by
    obtain ⟨fuel, hf⟩ := h0
    exact inrow_of 4 Ac3.cells Ac3.ok ac0 46 48 Try.underlying46 cellsAc3 (by omega) lenAc3 (fun n cs x => ac3_of n cs x) hf
  clear hA0 hval0
  refine (walk a0 len0 cap0 t0 W w0).mono fun e W' ⟨he, bel⟩ => ?_
  subst he
  exact ⟨_, rfl, _, _, _, [], _, [], hW', trodAll_mk1 (shut_bool Try.underlying4 _), (trodAll_cons_mk (Below.trod laidOut (by kernel_rfl) (of_decide_eq_true (by kernel_rfl)) k0 bel lt0) trodAll_mk0), rfl, bel.frame _, fun h => by cases h⟩

theorem over : Rows.bagOrderRow.holds Try.pinned (OpenSpec.ofChange Rows.bagOrderSpec) :=
  OpenClaim.holds_of_wide 7 Try.f7 rfl rfl rfl rfl rfl rfl rfl ⟨rfl, rfl, rfl, rfl, rfl⟩ rfl rfl rfl rfl rfl (by kernel_rfl) Try.func7 (by kernel_rfl)
    (of_decide_eq_true (by kernel_rfl)) (by unfold Func.isWrapper; first | (rw [if_pos (by decide +kernel)]; kernel_rfl) | (rw [if_neg (by decide +kernel)]; exact ⟨rfl, rfl⟩))
    (fun os started H enc _ => lifted os started H enc)

end Go.Proofs.Ytcclfibojmfjgaa.bagOrder

namespace Go.Proofs.Ytcclfibojmfjgaa
/-- Proved: for every list of calls, BagOrder answers true (packets lie in the bag in the order in which they came, whatever leaves in between; of any 40 calls that send, take and copy). -/
theorem bagOrder_holds : Rows.BagOrderSaid := bagOrder.over
#print axioms bagOrder_holds
end Go.Proofs.Ytcclfibojmfjgaa
