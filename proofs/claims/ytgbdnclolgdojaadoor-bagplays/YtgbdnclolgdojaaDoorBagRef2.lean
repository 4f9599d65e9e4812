/- The document's bag: Find of what isn't there, Without, Purge. -/
import Derived.Test.YtgbdnclolgdojaaDoorBagRef
namespace Go.Proofs.YtgbdnclolgdojaaDoor
open Go.ChangeShapes Go.WideShapes Go.ChangeAt Go.RowKit
set_option linter.unusedVariables false

set_option maxRecDepth 100000 in
set_option maxHeartbeats 1000000 in
theorem rfind_miss (last id : Int) (a : Option Addr) (c : Nat) (L : List Pk) (w : World) (h : RowAt w a L) (hl : L.length ≤ 4000) (hno : ∀ t, t < L.length → (L.getD t pk0).id ≠ id) :
    Calls Tryd.prog 11 #[.agg #[.int .i64 last, .slice a L.length c], .int .i64 id] w fun e w' => e = .returned (.tuple #[pk0.val, .bool false]) ∧ Below w.heap.size w w' := by
  obtain ⟨n, hn⟩ : ∃ n, n = L.length := ⟨_, rfl⟩
  have HH : Hid (RowAt w a L ∧ n = L.length ∧ ∀ t, t < L.length → (L.getD t pk0).id ≠ id) := ⟨h, hn, hno⟩
  rw [← hn] at hl ⊢
  clear hn hno h
  go_enter Tryd.func11, Tryd.ntmps11
  go_wp2
  go_loopw [11] (fun y wr => ∃ j : Nat, y = .int .i64 j ∧ j ≤ n ∧ Hid (Below (w.heap.size + 2) ((w.alloc (.cells #[.int .i64 last, .slice a n c] 28)).alloc (.cells #[.int .i64 0, .int .i64 0, .int .i64 0, .string { data := #[] }] 44)) wr)) (fun y _ => n - (intOf y).toNat)
  case atStart => exact ⟨0, rfl, Nat.zero_le _, (Below.refl _ _ : Below (w.heap.size + 2) _ _)⟩
  case round =>
    obtain ⟨j, rfl, hj, HB⟩ := hrel
    have hbw : Below w.heap.size w wr := (((Below.refl _ _).alloc (Nat.le_refl _) _).alloc (by simp) _).trans (HB.out.mono (by omega))
    have hwz : w.heap.size + 2 ≤ wr.heap.size := by have := HB.out.size; simp at this; omega
    by_cases hjk : j < n
    · have hjn : j < L.length := by rw [← HH.out.2.1]; exact hjk
      obtain ⟨gg, ha, R⟩ := HH.out.1 (by omega)
      have hglt := R.lt
      have hj0 : (0 : Int) ≤ (j : Int) := Int.natCast_nonneg _
      have hj1 : (j : Int) < (n : Int) := by omega
      have s0 := (bcell hbw gg (j * 4) hglt).trans (R.c0 j hjn)
      have s1 := (bcell hbw gg (j * 4 + 1) hglt).trans (R.c1 j hjn)
      have s2 := (bcell hbw gg (j * 4 + 2) hglt).trans (R.c2 j hjn)
      have s3 := (bcell hbw gg (j * 4 + 3) hglt).trans (R.c3 j hjn)
      obtain ⟨q, hq⟩ : ∃ q, q = L.getD j pk0 := ⟨_, rfl⟩
      rw [← hq] at s0 s1 s2 s3
      have hne : (q.id == id) = false := by
        have := HH.out.2.2 j hjn
        rw [← hq] at this; simpa using this
      subst ha
      clear hq R hbw hglt
      go_wp2
      go_roundw
      case rel => exact ⟨j + 1, by go_num, by omega, (HB.out.alloc (by omega) _ : Below (w.heap.size + 2) _ _)⟩
      case measure => simp [intOf]; omega
    · obtain rfl : j = n := by omega
      have hblk : wr.heap[w.heap.size + 1]? = some (.cells #[.int .i64 0, .int .i64 0, .int .i64 0, .string { data := #[] }] 44 (0, 0)) := (HB.out.block (w.heap.size + 1) (by omega)).trans (by
        have := heap_alloc_new (w.alloc (.cells #[.int .i64 last, .slice a j c] 28)) (.cells #[.int .i64 0, .int .i64 0, .int .i64 0, .string { data := #[] }] 44)
        simpa using this)
      obtain ⟨c0, c1, c2, c3, cf⟩ := four_block hblk
      have y1 : w.heap.size + 1 < wr.heap.size := by omega
      have HW : Hid (Below w.heap.size w wr) := hbw
      clear hblk hbw
      go_wp2
      refine bodyPost_ret (v := .tuple #[.agg #[.int .i64 0, .int .i64 0, .int .i64 0, .string { data := #[] }], .bool false]) (by simp [results, Tryd.results11, go_sem, c0, c1, c2, c3]) rfl ⟨rfl, ?_⟩
      exact (((HW.out.setCell (by simp) _).setCell (by simp) _).setCell (by simp) _).setCell (by simp) _

/-- A row of the document's packets that grows while a list is gone through. -/
theorem src_oneR (w : World) (q : Pk) (x : Nat) (hx : x = w.heap.size) :
    Src Tryd.prog 4 26 (.slice (some ⟨x, 0, none⟩) 1 1) 1 q.cells (w.alloc (.cells #[.int .i64 q.id, .int .i64 q.src, .int .i64 q.dst, .string q.s] 44)) :=
  Src.ofSlice _ Tryd.underlying26 _ 1 1 _ rfl (fun j u hu => by
    subst hx
    have := World.news_of_block (cs := #[.int .i64 q.id, .int .i64 q.src, .int .i64 q.dst, .string q.s]) (t := 44) (fr := (0, 0)) (heap_alloc_new w _) j u (by simpa [Pk.cells] using hu)
    exact this) (by simp [Pk.cells, Value.oneCell'])
theorem take_filter (f : Pk → Bool) (L : List Pk) (j : Nat) (hj : j < L.length) : (L.take (j + 1)).filter f = (L.take j).filter f ++ if f (L.getD j pk0) then [L.getD j pk0] else [] := by
  rw [List.take_succ_eq_append_getElem hj, List.filter_append]
  have e : L.getD j pk0 = L[j] := by simp [List.getD, hj]
  rw [e]
  by_cases h : f L[j] <;> simp [h]

set_option maxRecDepth 100000 in
set_option maxHeartbeats 2000000 in
theorem rwithout_any (last id : Int) (a : Option Addr) (c : Nat) (L : List Pk) (w : World) (h : RowAt w a L) (hl : L.length ≤ 4000) :
    Calls Tryd.prog 12 #[.agg #[.int .i64 last, .slice a L.length c], .int .i64 id] w fun e w' => ∃ a' c', e = .returned (.agg #[.int .i64 last, .slice a' (L.filter fun p => p.id != id).length c']) ∧ RowAt w' a' (L.filter fun p => p.id != id) ∧ (∀ x, a' = some x → w.heap.size + 2 ≤ x.block) ∧ Below w.heap.size w w' := by
  obtain ⟨i0, hi, hz0, hz1, hz2⟩ := info_parts Tryd.infoRPk
  obtain ⟨n, hn⟩ : ∃ n, n = L.length := ⟨_, rfl⟩
  have HH : Hid (RowAt w a L ∧ n = L.length) := ⟨h, hn⟩
  rw [← hn] at hl ⊢
  obtain ⟨f, hf⟩ : ∃ f : Pk → Bool, f = fun p => p.id != id := ⟨_, rfl⟩
  rw [← hf]
  have HF : Hid (f = fun p => p.id != id) := hf
  clear hn h hf
  go_enter Tryd.func12, Tryd.ntmps12
  go_wp2
  go_loopw [5, 12] (fun x y wr => ∃ (j m c' : Nat) (a' : Option Addr), y = .int .i64 j ∧ x = .slice a' m c' ∧ j ≤ n ∧ m ≤ j ∧ Hid (m = ((L.take j).filter f).length ∧ wr.ownsRow (w.heap.size + 2) 44 4 (.slice a' m c') m (((L.take j).filter f).flatMap Pk.cells) ∧ Below (w.heap.size + 2) ((w.alloc (.cells #[.int .i64 last, .slice a n c] 28)).alloc (.cells #[.int .i64 0, .slice none 0 0] 28)) wr)) (fun _ y _ => n - (intOf y).toNat)
  case atStart =>
    refine ⟨0, 0, 0, some ⟨w.heap.size + 2, 0, none⟩, rfl, by simp, Nat.zero_le _, Nat.le_refl _, (⟨rfl, ⟨rfl, .inr ⟨w.heap.size + 2, 0, #[], rfl, Nat.le_refl _, ?_, Nat.le_refl _, Nat.zero_le _, rfl, rfl⟩⟩, (Below.refl _ _).alloc (by simp) _⟩ : 0 = ((L.take 0).filter f).length ∧ _ ∧ _)⟩
    have := heap_alloc_new ((w.alloc (.cells #[.int .i64 last, .slice a n c] 28)).alloc (.cells #[.int .i64 0, .slice none 0 0] 28)) (.cells #[] 44)
    simpa using this
  case round =>
    obtain ⟨j, m, c', a', rfl, rfl, hj, hmj, H⟩ := hrel
    have hB := H.out.2.2
    have hbw : Below w.heap.size w wr := (((Below.refl _ _).alloc (Nat.le_refl _) _).alloc (by simp) _).trans (hB.mono (by omega))
    have hwz : w.heap.size + 2 ≤ wr.heap.size := by have := hB.size; simp at this; omega
    by_cases hjk : j < n
    · have hjn : j < L.length := by rw [← HH.out.2]; exact hjk
      obtain ⟨gg, ha, R⟩ := HH.out.1 (by omega)
      have hglt := R.lt
      have hj0 : (0 : Int) ≤ (j : Int) := Int.natCast_nonneg _
      have hj1 : (j : Int) < (n : Int) := by omega
      have s0 := (bcell hbw gg (j * 4) hglt).trans (R.c0 j hjn)
      have s1 := (bcell hbw gg (j * 4 + 1) hglt).trans (R.c1 j hjn)
      have s2 := (bcell hbw gg (j * 4 + 2) hglt).trans (R.c2 j hjn)
      have s3 := (bcell hbw gg (j * 4 + 3) hglt).trans (R.c3 j hjn)
      obtain ⟨q, hq⟩ : ∃ q, q = L.getD j pk0 := ⟨_, rfl⟩
      rw [← hq] at s0 s1 s2 s3
      have hst := take_filter f L j hjn
      rw [← hq] at hst
      subst ha
      by_cases hfq : q.id = id
      · have hne : (q.id != id) = false := by simpa using hfq
        have hst' : (L.take (j + 1)).filter f = (L.take j).filter f := by rw [hst, HF.out]; simp [hfq]
        have H2 : Hid ((L.take (j + 1)).filter f = (L.take j).filter f) := hst'
        clear hq R hbw hglt hst hst' hB hfq
        go_wp2
        go_roundw
        case rel => exact ⟨j + 1, m, c', a', by go_num, rfl, by omega, by omega, (⟨by rw [H2.out]; exact H.out.1, by rw [H2.out]; exact H.out.2.1.alloc _, H.out.2.2.alloc (by omega) _⟩ : m = ((L.take (j + 1)).filter f).length ∧ _ ∧ _)⟩
        case measure => simp [intOf]; omega
      · have hne : (q.id != id) = true := by simpa using hfq
        have hst' : (L.take (j + 1)).filter f = (L.take j).filter f ++ [q] := by rw [hst, HF.out]; simp [hfq]
        have H2 : Hid ((L.take (j + 1)).filter f = (L.take j).filter f ++ [q]) := hst'
        have hrow := H.out.2.1
        clear hq R hbw hglt hst hst' hB hfq
        go_wp2_with (at_builtin; refine wpList_own_append4 _ rfl _ _ 26 26 rfl (w.heap.size + 2) 44 i0 _ 40 Tryd.underlying26 hi hz0 hz1 hz2 rfl _ _ _ rfl ((hrow.alloc _).alloc _) _ 1 q.cells rfl (src_oneR (wr.alloc _) q (wr.heap.size + 1) (by simp)) ?c3 ?c4 ?c5 ?_)
        case c3 => unfold maxLen; omega
        case c4 => omega
        case c5 => simp; omega
        intro v' w2 ha
        have hg := ha.grown
        have hr2 := ha.row
        obtain ⟨a2, c2, hv2⟩ := ha.shape
        subst hv2
        have H3 : Hid (m + 1 = ((L.take (j + 1)).filter f).length ∧ w2.ownsRow (w.heap.size + 2) 44 4 (.slice a2 (m + 1) c2) (m + 1) (((L.take (j + 1)).filter f).flatMap Pk.cells) ∧ Below (w.heap.size + 2) ((w.alloc (.cells #[.int .i64 last, .slice (some ⟨gg, 0, none⟩) n c] 28)).alloc (.cells #[.int .i64 0, .slice none 0 0] 28)) w2) := by
          refine ⟨by rw [H2.out, List.length_append, ← H.out.1]; rfl, by rw [H2.out]; simpa using hr2, ((H.out.2.2.alloc (by omega) _).alloc (by simp; omega) _).trans ⟨hg.os, hg.tape, hg.output, hg.size, fun k hk => hg.block k (by simp; omega) (fun e => by have := (hrow.lt k e.symm).1; omega)⟩⟩
        clear ha hg hr2 hrow
        go_wp2
        go_roundw
        case rel => exact ⟨j + 1, m + 1, c2, a2, by go_num, rfl, by omega, by omega, H3⟩
        case measure => simp [intOf]; omega
    · obtain rfl : j = n := by omega
      have e1 := heap_alloc_new (w.alloc (.cells #[.int .i64 last, .slice a j c] 28)) (.cells #[.int .i64 0, .slice none 0 0] 28)
      have e0 := (Below.heap_alloc (w.alloc (.cells #[.int .i64 last, .slice a j c] 28)) (.cells #[.int .i64 0, .slice none 0 0] 28) w.heap.size (by simp)).trans (heap_alloc_new w _)
      rw [show (w.alloc (.cells #[.int .i64 last, .slice a j c] 28)).heap.size = w.heap.size + 1 by simp] at e1
      have g0 := (hB.block w.heap.size (by omega)).trans e0
      have g1 := (hB.block (w.heap.size + 1) (by omega)).trans e1
      have x0 := two_c0 g0
      have x1 := two_c1 g0
      have xf := two_free g0
      have y0 := two_c0 g1
      have y1 := two_c1 g1
      have yf := two_free g1
      have z0 := lt_of_block g0
      have z1 := lt_of_block g1
      have ht : (L.take j).filter f = L.filter f := by rw [HH.out.2, List.take_length]
      have H9 : Hid (m = (L.filter f).length ∧ wr.ownsRow (w.heap.size + 2) 44 4 (.slice a' m c') m ((L.filter f).flatMap Pk.cells) ∧ Below w.heap.size w wr) := ⟨by rw [← ht]; exact H.out.1, by rw [← ht]; exact H.out.2.1, hbw⟩
      clear e0 e1 g0 g1 hB hbw ht
      go_wp2
      refine bodyPost_ret (v := .agg #[.int .i64 last, .slice a' m c']) (by simp [results, Tryd.results12, go_sem, y0, y1]) rfl ?_
      obtain ⟨hm, hrow, hbb⟩ := H9.out
      have hne : ∀ k, (Value.slice a' m c').ownBlock = some k → w.heap.size + 2 ≤ k := fun k hk => (hrow.lt k hk).1
      refine ⟨a', c', by rw [hm], ?_, fun x hx => hne x.block (by rw [hx]; rfl), ((hbb.setCell (by simp) _).setCell (by simp) _).setCell (by simp) _⟩
      have r1 := ownsRow_setCell_other hrow (a := ⟨w.heap.size, 1, none⟩) (fun e => by have h9 : w.heap.size + 2 ≤ w.heap.size := hne _ e; omega) (.slice a' m c')
      have r2 := ownsRow_setCell_other r1 (a := ⟨w.heap.size + 1, 0, none⟩) (fun e => by have h9 : w.heap.size + 2 ≤ w.heap.size + 1 := hne _ e; omega) (.int .i64 last)
      have r3 := ownsRow_setCell_other r2 (a := ⟨w.heap.size + 1, 1, none⟩) (fun e => by have h9 : w.heap.size + 2 ≤ w.heap.size + 1 := hne _ e; omega) (.slice a' m c')
      have r4 := r3
      rw [hm] at r4
      obtain ⟨a9, c9, e9, hR, _⟩ := rrow_of r4
      simp only [Value.slice.injEq] at e9
      rw [← e9.1] at hR
      rw [hm]
      exact hR
end Go.Proofs.YtgbdnclolgdojaaDoor
