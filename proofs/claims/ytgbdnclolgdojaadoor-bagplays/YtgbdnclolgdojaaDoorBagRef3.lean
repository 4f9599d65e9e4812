/- The document's bag: Purge, Send; wigwaglaw03.same. -/
import Derived.Test.YtgbdnclolgdojaaDoorBagRef2
import Derived.Handy
namespace Go.Proofs.YtgbdnclolgdojaaDoor
open Go.ChangeShapes Go.WideShapes Go.ChangeAt Go.RowKit
set_option linter.unusedVariables false

set_option maxRecDepth 100000 in
set_option maxHeartbeats 2000000 in
theorem rpurge_any (last id : Int) (a : Option Addr) (c : Nat) (L : List Pk) (w : World) (h : RowAt w a L) (hl : L.length ≤ 4000) :
    Calls Tryd.prog 15 #[.agg #[.int .i64 last, .slice a L.length c], .int .i64 id] w fun e w' => ∃ a' c', e = .returned (.agg #[.int .i64 last, .slice a' (L.filter fun p => p.dst != id).length c']) ∧ RowAt w' a' (L.filter fun p => p.dst != id) ∧ (∀ x, a' = some x → w.heap.size + 2 ≤ x.block) ∧ Below w.heap.size w w' := by
  obtain ⟨i0, hi, hz0, hz1, hz2⟩ := info_parts Tryd.infoRPk
  obtain ⟨n, hn⟩ : ∃ n, n = L.length := ⟨_, rfl⟩
  have HH : Hid (RowAt w a L ∧ n = L.length) := ⟨h, hn⟩
  rw [← hn] at hl ⊢
  obtain ⟨f, hf⟩ : ∃ f : Pk → Bool, f = fun p => p.dst != id := ⟨_, rfl⟩
  rw [← hf]
  have HF : Hid (f = fun p => p.dst != id) := hf
  clear hn h hf
  go_enter Tryd.func15, Tryd.ntmps15
  go_wp2
  go_loopw [5, 12] (fun x y wr => ∃ (j m c' : Nat) (a' : Option Addr), y = .int .i64 j ∧ x = .slice a' m c' ∧ j ≤ n ∧ m ≤ j ∧ Hid (m = ((L.take j).filter f).length ∧ wr.ownsRow (w.heap.size + 2) 44 4 (.slice a' m c') m (((L.take j).filter f).flatMap Pk.cells) ∧ Below (w.heap.size + 2) ((w.alloc (.cells #[.int .i64 last, .slice a n c] 28)).alloc (.cells #[.int .i64 0, .slice none 0 0] 28)) wr)) (fun _ y _ => n - (intOf y).toNat)
  case atStart =>
    refine ⟨0, 0, 0, some ⟨w.heap.size + 2, 0, none⟩, rfl, by simp, Nat.zero_le _, Nat.le_refl _, (⟨rfl, ⟨rfl, .inr ⟨w.heap.size + 2, 0, #[], rfl, Nat.le_refl _, ?_, Nat.le_refl _, Nat.zero_le _, rfl, rfl⟩⟩, (Below.refl _ _).alloc (by simp) _⟩ : 0 = ((L.take 0).filter f).length ∧ _ ∧ _)⟩
    have := heap_alloc_new ((w.alloc (.cells #[.int .i64 last, .slice a n c] 28)).alloc (.cells #[.int .i64 0, .slice none 0 0] 28)) (.cells #[] 44)
    simpa using this
  case round =>
    obtain ⟨j, m, c', a', rfl, rfl, hj, hmj, H⟩ := hrel
    have hB := H.out.2.2
    have hbw : Below w.heap.size w wr := (((Below.refl _ _).alloc (Nat.le_refl _) _).alloc (by simp) _).trans (hB.mono (by omega))
    have hwz : w.heap.size + 2 ≤ wr.heap.size := by have := hB.size; simp at this; omega
    by_cases hjk : j < n
    · have hjn : j < L.length := by rw [← HH.out.2]; exact hjk
      obtain ⟨gg, ha, R⟩ := HH.out.1 (by omega)
      have hglt := R.lt
      have hj0 : (0 : Int) ≤ (j : Int) := Int.natCast_nonneg _
      have hj1 : (j : Int) < (n : Int) := by omega
      have s0 := (bcell hbw gg (j * 4) hglt).trans (R.c0 j hjn)
      have s1 := (bcell hbw gg (j * 4 + 1) hglt).trans (R.c1 j hjn)
      have s2 := (bcell hbw gg (j * 4 + 2) hglt).trans (R.c2 j hjn)
      have s3 := (bcell hbw gg (j * 4 + 3) hglt).trans (R.c3 j hjn)
      obtain ⟨q, hq⟩ : ∃ q, q = L.getD j pk0 := ⟨_, rfl⟩
      rw [← hq] at s0 s1 s2 s3
      have hst := take_filter f L j hjn
      rw [← hq] at hst
      subst ha
      by_cases hfq : q.dst = id
      · have hne : (q.dst != id) = false := by simpa using hfq
        have hst' : (L.take (j + 1)).filter f = (L.take j).filter f := by rw [hst, HF.out]; simp [hfq]
        have H2 : Hid ((L.take (j + 1)).filter f = (L.take j).filter f) := hst'
        clear hq R hbw hglt hst hst' hB hfq
        go_wp2
        go_roundw
        case rel => exact ⟨j + 1, m, c', a', by go_num, rfl, by omega, by omega, (⟨by rw [H2.out]; exact H.out.1, by rw [H2.out]; exact H.out.2.1.alloc _, H.out.2.2.alloc (by omega) _⟩ : m = ((L.take (j + 1)).filter f).length ∧ _ ∧ _)⟩
        case measure => simp [intOf]; omega
      · have hne : (q.dst != id) = true := by simpa using hfq
        have hst' : (L.take (j + 1)).filter f = (L.take j).filter f ++ [q] := by rw [hst, HF.out]; simp [hfq]
        have H2 : Hid ((L.take (j + 1)).filter f = (L.take j).filter f ++ [q]) := hst'
        have hrow := H.out.2.1
        clear hq R hbw hglt hst hst' hB hfq
        go_wp2_with (at_builtin; refine wpList_own_append4 _ rfl _ _ 26 26 rfl (w.heap.size + 2) 44 i0 _ 40 Tryd.underlying26 hi hz0 hz1 hz2 rfl _ _ _ rfl ((hrow.alloc _).alloc _) _ 1 q.cells rfl (src_oneR (wr.alloc _) q (wr.heap.size + 1) (by simp)) ?c3 ?c4 ?c5 ?_)
        case c3 => unfold maxLen; omega
        case c4 => omega
        case c5 => simp; omega
        intro v' w2 ha
        have hg := ha.grown
        have hr2 := ha.row
        obtain ⟨a2, c2, hv2⟩ := ha.shape
        subst hv2
        have H3 : Hid (m + 1 = ((L.take (j + 1)).filter f).length ∧ w2.ownsRow (w.heap.size + 2) 44 4 (.slice a2 (m + 1) c2) (m + 1) (((L.take (j + 1)).filter f).flatMap Pk.cells) ∧ Below (w.heap.size + 2) ((w.alloc (.cells #[.int .i64 last, .slice (some ⟨gg, 0, none⟩) n c] 28)).alloc (.cells #[.int .i64 0, .slice none 0 0] 28)) w2) := by
          refine ⟨by rw [H2.out, List.length_append, ← H.out.1]; rfl, by rw [H2.out]; simpa using hr2, ((H.out.2.2.alloc (by omega) _).alloc (by simp; omega) _).trans ⟨hg.os, hg.tape, hg.output, hg.size, fun k hk => hg.block k (by simp; omega) (fun e => by have := (hrow.lt k e.symm).1; omega)⟩⟩
        clear ha hg hr2 hrow
        go_wp2
        go_roundw
        case rel => exact ⟨j + 1, m + 1, c2, a2, by go_num, rfl, by omega, by omega, H3⟩
        case measure => simp [intOf]; omega
    · obtain rfl : j = n := by omega
      have e1 := heap_alloc_new (w.alloc (.cells #[.int .i64 last, .slice a j c] 28)) (.cells #[.int .i64 0, .slice none 0 0] 28)
      have e0 := (Below.heap_alloc (w.alloc (.cells #[.int .i64 last, .slice a j c] 28)) (.cells #[.int .i64 0, .slice none 0 0] 28) w.heap.size (by simp)).trans (heap_alloc_new w _)
      rw [show (w.alloc (.cells #[.int .i64 last, .slice a j c] 28)).heap.size = w.heap.size + 1 by simp] at e1
      have g0 := (hB.block w.heap.size (by omega)).trans e0
      have g1 := (hB.block (w.heap.size + 1) (by omega)).trans e1
      have x0 := two_c0 g0
      have x1 := two_c1 g0
      have xf := two_free g0
      have y0 := two_c0 g1
      have y1 := two_c1 g1
      have yf := two_free g1
      have z0 := lt_of_block g0
      have z1 := lt_of_block g1
      have ht : (L.take j).filter f = L.filter f := by rw [HH.out.2, List.take_length]
      have H9 : Hid (m = (L.filter f).length ∧ wr.ownsRow (w.heap.size + 2) 44 4 (.slice a' m c') m ((L.filter f).flatMap Pk.cells) ∧ Below w.heap.size w wr) := ⟨by rw [← ht]; exact H.out.1, by rw [← ht]; exact H.out.2.1, hbw⟩
      clear e0 e1 g0 g1 hB hbw ht
      go_wp2
      refine bodyPost_ret (v := .agg #[.int .i64 last, .slice a' m c']) (by simp [results, Tryd.results15, go_sem, y0, y1]) rfl ?_
      obtain ⟨hm, hrow, hbb⟩ := H9.out
      have hne : ∀ k, (Value.slice a' m c').ownBlock = some k → w.heap.size + 2 ≤ k := fun k hk => (hrow.lt k hk).1
      refine ⟨a', c', by rw [hm], ?_, fun x hx => hne x.block (by rw [hx]; rfl), ((hbb.setCell (by simp) _).setCell (by simp) _).setCell (by simp) _⟩
      have r1 := ownsRow_setCell_other hrow (a := ⟨w.heap.size, 1, none⟩) (fun e => by have h9 : w.heap.size + 2 ≤ w.heap.size := hne _ e; omega) (.slice a' m c')
      have r2 := ownsRow_setCell_other r1 (a := ⟨w.heap.size + 1, 0, none⟩) (fun e => by have h9 : w.heap.size + 2 ≤ w.heap.size + 1 := hne _ e; omega) (.int .i64 last)
      have r3 := ownsRow_setCell_other r2 (a := ⟨w.heap.size + 1, 1, none⟩) (fun e => by have h9 : w.heap.size + 2 ≤ w.heap.size + 1 := hne _ e; omega) (.slice a' m c')
      have r4 := r3
      rw [hm] at r4
      obtain ⟨a9, c9, e9, hR, _⟩ := rrow_of r4
      simp only [Value.slice.injEq] at e9
      rw [← e9.1] at hR
      rw [hm]
      exact hR

set_option maxRecDepth 100000 in
theorem rsend_long (last x y : Int) (a : Option Addr) (n c : Nat) (s : ByteArray) (w : World) (hs : 2000 < s.size) (hm : s.size ≤ maxLen) :
    Calls Tryd.prog 8 #[.agg #[.int .i64 last, .slice a n c], .int .i64 x, .int .i64 y, .string s] w fun e w' => e = .returned (.tuple #[.agg #[.int .i64 last, .slice a n c], .int .i64 0, .int .i64 1]) ∧ Below w.heap.size w w' := by
  unfold maxLen at hm
  go_enter Tryd.func8, Tryd.ntmps8
  go_wp2
  refine bodyPost_ret (v := .tuple #[.agg #[.int .i64 last, .slice a n c], .int .i64 0, .int .i64 1]) (by simp [results, Tryd.results8, go_sem]) rfl ⟨rfl, ?_⟩
  go_grown
set_option maxRecDepth 100000 in
theorem rsend_full (last x y : Int) (a : Option Addr) (n c : Nat) (s : ByteArray) (w : World) (hs : s.size ≤ 2000) (hn : 4000 ≤ n) (hn2 : n ≤ 4000) :
    Calls Tryd.prog 8 #[.agg #[.int .i64 last, .slice a n c], .int .i64 x, .int .i64 y, .string s] w fun e w' => e = .returned (.tuple #[.agg #[.int .i64 last, .slice a n c], .int .i64 0, .int .i64 4]) ∧ Below w.heap.size w w' := by
  go_enter Tryd.func8, Tryd.ntmps8
  go_wp2
  refine bodyPost_ret (v := .tuple #[.agg #[.int .i64 last, .slice a n c], .int .i64 0, .int .i64 4]) (by simp [results, Tryd.results8, go_sem]) rfl ⟨rfl, ?_⟩
  go_grown

theorem RowAt.src {w : World} {a : Option Addr} {L : List Pk} (c : Nat) (h : RowAt w a L) : Src Tryd.prog 4 26 (.slice a L.length c) L.length (L.flatMap Pk.cells) w := by
  by_cases h0 : 0 < L.length
  · obtain ⟨gg, rfl, R⟩ := h h0
    refine Src.ofSlice _ Tryd.underlying26 _ _ _ _ (flat_len Pk.cells 4 Pk.cells_len L) (fun m u hu => ?_) (fun u hu => ?_)
    · have hm : m < L.length * 4 := by
        have := (List.getElem?_eq_some_iff.1 hu).1
        rwa [flat_len Pk.cells 4 Pk.cells_len] at this
      obtain ⟨t, k, hk, rfl⟩ : ∃ t k, k < 4 ∧ m = t * 4 + k := ⟨m / 4, m % 4, by omega, by omega⟩
      have ht : t < L.length := by omega
      rw [flat_get Pk.cells 4 Pk.cells_len pk0 L t k ht hk] at hu
      rw [Addr.add_lit, Nat.zero_add, ← hu]
      match k, hk with
      | 0, _ => exact R.c0 t ht
      | 1, _ => exact R.c1 t ht
      | 2, _ => exact R.c2 t ht
      | 3, _ => exact R.c3 t ht
    · obtain ⟨q, _, hq⟩ := List.mem_flatMap.1 hu
      simp only [Pk.cells, List.mem_cons, List.not_mem_nil, or_false] at hq
      rcases hq with rfl | rfl | rfl | rfl <;> rfl
  · have hL : L = [] := List.eq_nil_of_length_eq_zero (by omega)
    subst hL
    cases a with
    | none => exact Src.ofNil _ Tryd.underlying26 c
    | some x => exact Src.ofSlice _ Tryd.underlying26 x 0 c [] rfl (fun j u hu => by simp at hu) (by simp)

set_option maxRecDepth 100000 in
set_option maxHeartbeats 2000000 in
theorem rsend_ok (last x y : Int) (a : Option Addr) (c : Nat) (L : List Pk) (s : ByteArray) (w : World) (h : RowAt w a L) (hs : s.size ≤ 2000) (hl : L.length < 4000) (h0 : 0 ≤ last) (h1 : last < 1000000000000) :
    Calls Tryd.prog 8 #[.agg #[.int .i64 last, .slice a L.length c], .int .i64 x, .int .i64 y, .string s] w fun e w' => ∃ a' c', e = .returned (.tuple #[.agg #[.int .i64 (last + 1), .slice a' (L.length + 1) c'], .int .i64 (last + 1), .int .i64 0]) ∧ RowAt w' a' (L ++ [⟨last + 1, x, y, s⟩]) ∧ (∀ z, a' = some z → w.heap.size + 2 ≤ z.block) ∧ Below w.heap.size w w' := by
  obtain ⟨i0, hi, hz0, hz1, hz2⟩ := info_parts Tryd.infoRPk
  obtain ⟨n, hn⟩ : ∃ n, n = L.length := ⟨_, rfl⟩
  have HH : Hid (RowAt w a L ∧ n = L.length) := ⟨h, hn⟩
  rw [← hn] at hl ⊢
  obtain ⟨W3, hW3⟩ : ∃ W3, W3 = ((w.alloc (.cells #[.int .i64 (last + 1), .slice a n c] 28)).alloc (.cells #[.int .i64 0, .slice none 0 0] 28)).alloc (.cells #[] 44) := ⟨_, rfl⟩
  have hb3 : Below w.heap.size w W3 := by rw [hW3]; exact (((Below.refl _ _).alloc (Nat.le_refl _) _).alloc (by simp) _).alloc (by simp; omega) _
  have hsrc := (h.below hb3).src c
  rw [← hn] at hsrc
  have hown : W3.ownsRow (w.heap.size + 2) 44 4 (.slice (some ⟨w.heap.size + 2, 0, none⟩) 0 0) 0 [] := by
    refine ⟨rfl, .inr ⟨w.heap.size + 2, 0, #[], rfl, Nat.le_refl _, ?_, Nat.le_refl _, Nat.zero_le _, rfl, rfl⟩⟩
    have := heap_alloc_new ((w.alloc (.cells #[.int .i64 (last + 1), .slice a n c] 28)).alloc (.cells #[.int .i64 0, .slice none 0 0] 28)) (.cells #[] 44)
    rw [hW3]; simpa using this
  have g0 : W3.heap[w.heap.size]? = some (.cells #[.int .i64 (last + 1), .slice a n c] 28 (0, 0)) := by
    rw [hW3]; exact (Below.heap_alloc _ _ _ (by simp; omega)).trans ((Below.heap_alloc _ _ _ (by simp)).trans (heap_alloc_new w _))
  have g1 : W3.heap[w.heap.size + 1]? = some (.cells #[.int .i64 0, .slice none 0 0] 28 (0, 0)) := by
    rw [hW3]
    refine (Below.heap_alloc _ _ _ (by simp)).trans ?_
    have := heap_alloc_new (w.alloc (.cells #[.int .i64 (last + 1), .slice a n c] 28)) (.cells #[.int .i64 0, .slice none 0 0] 28)
    simpa using this
  have hz3 : W3.heap.size = w.heap.size + 3 := by rw [hW3]; simp
  have HS : Hid (Src Tryd.prog 4 26 (.slice a n c) n (L.flatMap Pk.cells) W3 ∧ W3.heap.size = w.heap.size + 3 ∧ Below w.heap.size w W3) := ⟨hsrc, hz3, hb3⟩
  clear h hn hsrc hb3
  go_enter Tryd.func8, Tryd.ntmps8
  go_wp2_with (at_builtin; rw [← hW3]; refine wpList_own_append4 _ rfl _ _ 26 26 rfl (w.heap.size + 2) 44 i0 _ 40 Tryd.underlying26 hi hz0 hz1 hz2 rfl _ _ _ rfl hown _ n (L.flatMap Pk.cells) rfl HS.out.1 ?c3 ?c4 ?c5 ?_)
  case c3 => unfold maxLen; omega
  case c4 => omega
  case c5 => omega
  intro v4 w4 ha
  rw [← hW3] at ha
  have hg4 := ha.grown
  have hr4 := ha.row
  have k0 := (hg4.block w.heap.size (by omega) (by simp [Value.ownBlock]; omega)).trans g0
  have k1 := (hg4.block (w.heap.size + 1) (by omega) (by simp [Value.ownBlock])).trans g1
  have x0 := two_c0 k0
  have x1 := two_c1 k0
  have xf := two_free k0
  have z4 : w.heap.size + 3 ≤ w4.heap.size := by have := hg4.size; omega
  have z40 : w.heap.size < w4.heap.size := by omega
  have z41 : w.heap.size + 1 < w4.heap.size := by omega
  have HB4 : Hid (Below w.heap.size w w4 ∧ w4.heap[w.heap.size]? = some (.cells #[.int .i64 (last + 1), .slice a n c] 28 (0, 0)) ∧ w4.heap[w.heap.size + 1]? = some (.cells #[.int .i64 0, .slice none 0 0] 28 (0, 0))) :=
    ⟨HS.out.2.2.trans ⟨hg4.os, hg4.tape, hg4.output, hg4.size, fun k hk => hg4.block k (by have := HS.out.2.1; omega) (by simp [Value.ownBlock]; omega)⟩, k0, k1⟩
  obtain ⟨a4, c4, hv4⟩ := ha.shape
  subst hv4
  clear ha hg4 k0 k1 g0 g1 hown hW3
  go_wp2_with (at_builtin; refine wpList_own_append4 _ rfl _ _ 26 26 rfl (w.heap.size + 2) 44 i0 _ 40 Tryd.underlying26 hi hz0 hz1 hz2 rfl _ _ _ rfl (hr4.alloc _) _ 1 (Pk.cells ⟨last + 1, x, y, s⟩) rfl (src_oneR w4 ⟨last + 1, x, y, s⟩ w4.heap.size rfl) ?c3 ?c4 ?c5 ?_)
  case c3 => unfold maxLen; omega
  case c4 => omega
  case c5 => simp; omega
  intro v5 w5 ha
  have hg5 := ha.grown
  have hr5 := ha.row
  have hfar : ∀ k, k < w.heap.size + 2 → some k ≠ (Value.slice a4 n c4).ownBlock := fun k hk e => by have := (hr4.lt k (by simpa using e.symm)).1; omega
  have k0 := (hg5.block w.heap.size (by simp; omega) (by simpa using hfar w.heap.size (by omega))).trans ((Below.heap_alloc w4 _ _ z40).trans HB4.out.2.1)
  have k1 := (hg5.block (w.heap.size + 1) (by simp; omega) (by simpa using hfar (w.heap.size + 1) (by omega))).trans ((Below.heap_alloc w4 _ _ z41).trans HB4.out.2.2)
  clear x0 x1 xf
  have x0 := two_c0 k0
  have x1 := two_c1 k0
  have xf := two_free k0
  have y0 := two_c0 k1
  have y1 := two_c1 k1
  have yf := two_free k1
  have z50 := lt_of_block k0
  have z51 := lt_of_block k1
  obtain ⟨a5, c5, hv5⟩ := ha.shape
  subst hv5
  have H5 : Hid (w5.ownsRow (w.heap.size + 2) 44 4 (.slice a5 (n + 1) c5) (n + 1) ((L ++ [(⟨last + 1, x, y, s⟩ : Pk)]).flatMap Pk.cells) ∧ Below w.heap.size w w5) := by
    refine ⟨by simpa using hr5, HB4.out.1.trans (⟨hg5.os, hg5.tape, hg5.output, by have := hg5.size; simp at this; omega, fun k hk => (hg5.block k (by simp; omega) (by simpa using hfar k (by omega))).trans (Below.heap_alloc w4 _ k (by omega))⟩ : Below w.heap.size w4 w5)⟩
  clear ha hg5 hr5 hr4 hfar k0 k1
  go_wp2_with fail
  go_region
  all_goals
    go_wp2
    refine bodyPost_ret (v := .tuple #[.agg #[.int .i64 (last + 1), .slice a5 (n + 1) c5], .int .i64 (last + 1), .int .i64 0]) (by simp [results, Tryd.results8, go_sem, y0, y1]) rfl ?_
    obtain ⟨hrow, hbb⟩ := H5.out
    have hne : ∀ k, (Value.slice a5 (n + 1) c5).ownBlock = some k → w.heap.size + 2 ≤ k := fun k hk => (hrow.lt k hk).1
    have r1 := ownsRow_setCell_other hrow (a := ⟨w.heap.size, 1, none⟩) (fun e => by have h9 : w.heap.size + 2 ≤ w.heap.size := hne _ e; omega) (.slice a5 (n + 1) c5)
    have r2 := ownsRow_setCell_other r1 (a := ⟨w.heap.size + 1, 0, none⟩) (fun e => by have h9 : w.heap.size + 2 ≤ w.heap.size + 1 := hne _ e; omega) (.int .i64 (last + 1))
    have r3 := ownsRow_setCell_other r2 (a := ⟨w.heap.size + 1, 1, none⟩) (fun e => by have h9 : w.heap.size + 2 ≤ w.heap.size + 1 := hne _ e; omega) (.slice a5 (n + 1) c5)
    have hl9 : (L ++ [(⟨last + 1, x, y, s⟩ : Pk)]).length = n + 1 := by rw [HH.out.2]; simp
    rw [← hl9] at r3
    obtain ⟨a9, c9, e9, hR, _⟩ := rrow_of r3
    rw [hl9] at e9
    simp only [Value.slice.injEq] at e9
    rw [← e9.1] at hR
    rw [hl9] at hR
    refine ⟨a5, c5, rfl, ?_, fun z hz => hne z.block (by rw [hz]; rfl), ?_⟩
    · exact hR.below ⟨rfl, rfl, rfl, Nat.le_refl _, fun _ _ => rfl⟩
    · exact (((hbb.setCell (by simp) _).setCell (by simp) _).setCell (by simp) _).trans ⟨rfl, rfl, rfl, Nat.le_refl _, fun _ _ => rfl⟩

set_option maxRecDepth 100000 in
set_option maxHeartbeats 1000000 in
/-- Two rows of the same packets are the same. -/
theorem same_any (a b : Option Addr) (c d : Nat) (L : List Pk) (w : World) (h : RowAt w a L) (h2 : RowAt w b L) (hl : L.length ≤ 4000) :
    Calls Tryd.prog 17 #[.slice a L.length c, .slice b L.length d] w fun e w' => e = .returned (.int .i64 0) ∧ Below w.heap.size w w' := by
  obtain ⟨n, hn⟩ : ∃ n, n = L.length := ⟨_, rfl⟩
  have HH : Hid (RowAt w a L ∧ RowAt w b L ∧ n = L.length) := ⟨h, h2, hn⟩
  rw [← hn] at hl ⊢
  clear h h2 hn
  go_enter Tryd.func17, Tryd.ntmps17
  go_wp2
  go_loopw [13] (fun y wr => ∃ j : Nat, y = .int .i64 j ∧ j ≤ n ∧ Hid (Below w.heap.size w wr)) (fun y _ => n - (intOf y).toNat)
  case atStart => exact ⟨0, rfl, Nat.zero_le _, (Below.refl _ _ : Below w.heap.size w w)⟩
  case round =>
    obtain ⟨j, rfl, hj, HB⟩ := hrel
    by_cases hjk : j < n
    · have hjn : j < L.length := by rw [← HH.out.2.2]; exact hjk
      obtain ⟨g1, e1, R⟩ := HH.out.1 (by omega)
      obtain ⟨g2, e2, R2⟩ := HH.out.2.1 (by omega)
      have hj0 : (0 : Int) ≤ (j : Int) := Int.natCast_nonneg _
      have hj1 : (j : Int) < (n : Int) := by omega
      have s0 := (bcell HB.out g1 (j * 4) R.lt).trans (R.c0 j hjn)
      have s1 := (bcell HB.out g1 (j * 4 + 1) R.lt).trans (R.c1 j hjn)
      have s2 := (bcell HB.out g1 (j * 4 + 2) R.lt).trans (R.c2 j hjn)
      have s3 := (bcell HB.out g1 (j * 4 + 3) R.lt).trans (R.c3 j hjn)
      have t0 := (bcell HB.out g2 (j * 4) R2.lt).trans (R2.c0 j hjn)
      have t1 := (bcell HB.out g2 (j * 4 + 1) R2.lt).trans (R2.c1 j hjn)
      have t2 := (bcell HB.out g2 (j * 4 + 2) R2.lt).trans (R2.c2 j hjn)
      have t3 := (bcell HB.out g2 (j * 4 + 3) R2.lt).trans (R2.c3 j hjn)
      obtain ⟨q, hq⟩ : ∃ q, q = L.getD j pk0 := ⟨_, rfl⟩
      rw [← hq] at s0 s1 s2 s3 t0 t1 t2 t3
      subst e1 e2
      clear hq R R2
      go_wp2_with fail
      go_quiet (fail)
      go_wp2
      go_roundw
      case rel => exact ⟨j + 1, by go_num, by omega, (⟨HB.out.os, HB.out.tape, HB.out.output, HB.out.size, HB.out.block⟩ : Below w.heap.size w (wr.drewN _))⟩
      case measure => simp [intOf]; omega
    · obtain rfl : j = n := by omega
      go_wp2
      go_ret
      exact ⟨rfl, HB.out⟩
end Go.Proofs.YtgbdnclolgdojaaDoor
