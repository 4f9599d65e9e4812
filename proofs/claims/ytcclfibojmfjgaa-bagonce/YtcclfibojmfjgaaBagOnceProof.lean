/- Proved: for every list of texts and every order, BagOnce answers true (what is taken was sent, just so, and is taken once; of at most 40 packets).
  The frame is the guide's own shell (proof-skeleton.mjs) at this function; the walk and all ahead of it are mine. -/
import Derived.Test.YtcclfibojmfjgaaRows
import Derived.Test.YtcclfibojmfjgaaBagAwake
import Derived.Test.YtcclfibojmfjgaaInRow
import Derived.WalkKit
import Derived.WalkLawsBesides
import Derived.ProofKit
import Derived.OpenShut
import Derived.ShutString
import Derived.ChangeOld
import Derived.Below
namespace Go.Proofs.Ytcclfibojmfjgaa.bagOnce
open Go.ChangeShapes Go.WideShapes Go.ChangeAt Go.RowKit
open Go.ChangeMaps (open_string shut_string)
set_option linter.unusedVariables false

theorem own : ownKnob Try.prog.godebug = none := by kernel_rfl
theorem laidOut : laidOutB Try.prog = true := by kernel_rfl


/-- The bag, and the row of what was sent. -/
structure Once (w wr : World) (v vs : Value) (g : Bg) (L : List Pk) : Prop where
  bag : BagAt w.heap.size wr w.heap.size v g
  ok : g.ok
  row : wr.ownsRow w.heap.size 32 4 vs L.length (L.flatMap Pk.cells)
  ap : ∀ k, vs.ownBlock = some k → v.ownBlock ≠ some k ∧ k ≠ w.heap.size
  bel : Below w.heap.size w wr
theorem row_carry {w w' : World} {B : Nat} {e : TypeId} {vs : Value} {n : Nat} {xs : List Value} (h : w.ownsRow B e 4 vs n xs) (hb : ∀ k, vs.ownBlock = some k → w'.heap[k]? = w.heap[k]?) : w'.ownsRow B e 4 vs n xs := by
  refine ⟨h.1, ?_⟩
  rcases h.2 with h1 | ⟨g', cap, cur, hv, hbg, hg, hr⟩
  · exact .inl h1
  · exact .inr ⟨g', cap, cur, hv, hbg, (hb g' (by rw [hv]; rfl)).trans hg, hr⟩
theorem Once.below {w wr w' : World} {v vs : Value} {g : Bg} {L : List Pk} (h : Once w wr v vs g L) (hb : Below wr.heap.size wr w') : Once w w' v vs g L :=
  ⟨h.bag.below hb, h.ok, row_carry h.row (fun k hk => hb.block k (h.row.lt k hk).2), h.ap, h.bel.trans (hb.mono h.bel.size)⟩
theorem Once.alloc {w wr : World} {v vs : Value} {g : Bg} {L : List Pk} (h : Once w wr v vs g L) (o : Obj) : Once w (wr.alloc o) v vs g L := h.below ((Below.refl _ _).alloc (Nat.le_refl _) o)
theorem Once.kept {w wr w' : World} {v v' vs : Value} {g g' : Bg} {L : List Pk} (h : Once w wr v vs g L) (hk : Kept wr w' w.heap.size v v') (hA : BagAt w.heap.size w' w.heap.size v' g') (ho : g'.ok) : Once w w' v' vs g' L := by
  refine ⟨hA, ho, row_carry h.row (fun k hk' => hk.block k (h.row.lt k hk').2 (h.ap k hk').2 (fun e => (h.ap k hk').1 e.symm)), fun k hk' => ⟨fun e => ?_, (h.ap k hk').2⟩, hk.belowB h.bag h.bel h.bel.size⟩
  rcases hk.own k e with h1 | h1
  · exact (h.ap k hk').1 h1
  · have := (h.row.lt k hk').2; omega
theorem Once.app {w wr w2 : World} {v vs vs' : Value} {g : Bg} {L : List Pk} {q : Pk} (h : Once w wr v vs g L) (ha : Appended4 w.heap.size 32 wr w2 vs vs' (L.length + 1) (L.flatMap Pk.cells ++ q.cells)) : Once w w2 v vs' g (L ++ [q]) := by
  have hg := ha.grown
  have hp : vs.ownBlock ≠ some w.heap.size := fun e => (h.ap _ e).2 rfl
  refine ⟨⟨h.bag.lo, (hg.block _ h.bag.lt hp.symm).trans h.bag.box, row_carry h.bag.row (fun k hk => hg.block k (h.bag.row.lt k hk).2 (fun e => (h.ap k e.symm).1 hk)), h.bag.apart⟩, h.ok, ?_, fun k hk => ?_, ?_⟩
  · have := ha.row
    simpa using this
  · rcases ha.new k hk with h1 | h1
    · exact h.ap k h1
    · refine ⟨fun e => ?_, ?_⟩
      · have := (h.bag.row.lt k e).2; omega
      · have := h.bag.lt; omega
  · exact h.bel.trans ⟨hg.os, hg.tape, hg.output, hg.size, fun k hk => hg.block k (Nat.lt_of_lt_of_le hk h.bel.size) (fun e => by have := (h.row.lt k e.symm).1; omega)⟩
/-- All that was sent so far. -/
def Snt (i : Nat) (g : Bg) (L : List Pk) : Prop := g.ps = L ∧ L.length = i ∧ g.last = i
theorem snt_add {i : Nat} {g : Bg} {L : List Pk} (h : Snt i g L) (x y : Int) (s : ByteArray) : Snt (i + 1) (g.add x y s) (L ++ [⟨g.last + 1, x, y, s⟩]) := by
  obtain ⟨a, b, c⟩ := h
  refine ⟨by show g.ps ++ _ = _; rw [a], by simp [b], ?_⟩
  show g.last + 1 = _; rw [c]; simp
theorem once_new (w : World) : Once w ((w.alloc (.cells #[.slice none 0 0, .int .i64 0] 26)).alloc (.cells #[] 32)) (.slice none 0 0) (.slice (some ⟨w.heap.size + 1, 0, none⟩) 0 0) bg0 [] := by
  refine ⟨(BagAt.new w _ (Nat.le_refl _)).alloc _, bg0_ok, ⟨rfl, .inr ⟨w.heap.size + 1, 0, #[], rfl, by omega, ?_, Nat.le_refl _, Nat.zero_le _, rfl, rfl⟩⟩, fun k hk => ?_, ((Below.refl _ _).alloc (Nat.le_refl _) _).alloc (by simp) _⟩
  · have := heap_alloc_new (w.alloc (.cells #[.slice none 0 0, .int .i64 0] 26)) (.cells #[] 32)
    simpa using this
  · simp [Value.ownBlock] at hk ⊢; omega
theorem once_sent {w wr w2 : World} {v v2 vs : Value} {i : Nat} {g : Bg} {L : List Pk} {x y : Int} {s : ByteArray} (H : Once w wr v vs g L ∧ Snt i g L) (hA : BagAt w.heap.size w2 w.heap.size v2 (g.add x y s)) (hK : Kept wr w2 w.heap.size v v2) (hs : s.size ≤ 2000) (hi : i < 40) (hx : i64 x) (hy : i64 y) :
    Once w w2 v2 vs (g.add x y s) L ∧ Snt (i + 1) (g.add x y s) (L ++ [⟨g.last + 1, x, y, s⟩]) :=
  ⟨H.1.kept hK hA (H.1.ok.add x y s hs (by rw [H.2.1, H.2.2.1]; omega) hx hy), snt_add H.2 x y s⟩
theorem src_oneP (w : World) (q : Pk) :
    Src Try.prog 4 24 (.slice (some ⟨w.heap.size, 0, none⟩) 1 1) 1 q.cells (w.alloc (.cells #[.int .i64 q.id, .int .i64 q.src, .int .i64 q.dst, .string q.s] 32)) :=
  Src.ofSlice _ Try.underlying24 _ 1 1 _ rfl (fun j u hu => by
    have := World.news_of_block (cs := #[.int .i64 q.id, .int .i64 q.src, .int .i64 q.dst, .string q.s]) (t := 32) (fr := (0, 0)) (heap_alloc_new w _) j u (by simpa [Pk.cells] using hu)
    exact this) (by simp [Pk.cells, Value.oneCell'])
/-- What is in the bag was sent. -/
structure Sub (w wr : World) (v vs : Value) (g : Bg) (L : List Pk) : Prop where
  once : Once w wr v vs g L
  sub : ∀ p ∈ g.ps, p ∈ L
  rise : Rising L
theorem Sub.alloc {w wr : World} {v vs : Value} {g : Bg} {L : List Pk} (h : Sub w wr v vs g L) (o : Obj) : Sub w (wr.alloc o) v vs g L := ⟨h.once.alloc o, h.sub, h.rise⟩
theorem Sub.below {w wr w' : World} {v vs : Value} {g : Bg} {L : List Pk} (h : Sub w wr v vs g L) (hb : Below wr.heap.size wr w') : Sub w w' v vs g L := ⟨h.once.below hb, h.sub, h.rise⟩
theorem Sub.far {w wr : World} {v vs : Value} {g : Bg} {L : List Pk} (h : Sub w wr v vs g L) : wr.heap.size ≠ w.heap.size ∧ some wr.heap.size ≠ v.ownBlock :=
  ⟨by have := h.once.bag.lt; omega, fun e => by have := (h.once.bag.row.lt _ e.symm).2; omega⟩
theorem rise_eq {L : List Pk} (h : Rising L) {p q : Pk} (hp : p ∈ L) (hq : q ∈ L) (e : p.id = q.id) : p = q := by
  obtain ⟨i, hi, rfl⟩ := mem_getD hp
  obtain ⟨j, hj, rfl⟩ := mem_getD hq
  rcases Nat.lt_trichotomy i j with h1 | h1 | h1
  · have := rising_lt h h1 hj; omega
  · rw [h1]
  · have := rising_lt h h1 hi; omega
theorem tk_miss {w wr : World} {v vs : Value} {g : Bg} {L : List Pk} (h : Sub w wr v vs g L) (id : Int) (hno : ∀ p ∈ g.ps, p.id ≠ id) :
    Calls Try.prog 9 #[.pointer (some ⟨w.heap.size, 0, none⟩), .int .i64 id] wr fun e w' => e = .returned (.tuple #[.agg #[.int .i64 0, .int .i64 0, .int .i64 0, .string { data := #[] }], .iface 36 (.int .i64 9)]) ∧ Sub w w' v vs g L ∧ Below wr.heap.size wr w' := by
  refine (take_miss _ _ v g id wr h.once.bag h.once.ok hno).mono ?_
  rintro e w' ⟨rfl, hb⟩
  exact ⟨rfl, ⟨h.once.below hb, h.sub, h.rise⟩, hb⟩
theorem tk_hit {w wr : World} {v vs : Value} {g : Bg} {L : List Pk} (h : Sub w wr v vs g L) (q : Pk) (hq : q ∈ L) (k : Nat) (hk : k < g.ps.length) (hid : (g.ps.getD k pk0).id = q.id) :
    Calls Try.prog 9 #[.pointer (some ⟨w.heap.size, 0, none⟩), .int .i64 q.id] wr fun e w' => e = .returned (.tuple #[.agg #[.int .i64 q.id, .int .i64 q.src, .int .i64 q.dst, .string q.s], .nilIface]) ∧ ∃ v' g', Sub w w' v' vs g' L ∧ (∀ p ∈ g'.ps, p.id ≠ q.id) ∧ Kept wr w' w.heap.size v v' := by
  have e1 : g.ps.getD k pk0 = q := rise_eq h.rise (h.sub _ (getD_mem g.ps k hk)) hq hid
  refine (take_hit _ _ v g q.id k wr h.once.bag h.once.ok hk hid).mono ?_
  rintro e w' ⟨rfl, v', hA, hK⟩
  rw [e1]
  have hf := erase_filter h.once.ok.rise k hk
  refine ⟨rfl, v', g.del k, ⟨h.once.kept hK hA (h.once.ok.del k), fun p hp => h.sub p ((List.eraseIdx_sublist _ _).subset hp), h.rise⟩, fun p hp => ?_, hK⟩
  have hp' : p ∈ g.ps.eraseIdx k := hp
  rw [hf, hid] at hp'
  simpa using (List.mem_filter.1 hp').2
/-! ### STEP 1: the walk -/
set_option maxRecDepth 100000 in
set_option maxHeartbeats 2000000 in
theorem walk (a0 : Option Addr) (len0 cap0 : Nat) (t0 : List ByteArray) (a1 : Option Addr) (len1 cap1 : Nat) (t1 : List Int) (w : World) (w0 : InRow 1 encS okS ByteArray.empty w a0 len0 t0) (w1 : InRow 1 encI i64 0 w a1 len1 t1) :
    Calls Try.prog 3 #[.slice a0 len0 cap0, .slice a1 len1 cap1] w fun e w' => e = .returned (.bool true) ∧ Below w.heap.size w w' := by
  have hmx0 := w0.2.1
  have hmx1 := w1.2.1
  have HX : Hid (InRow 1 encS okS ByteArray.empty w a0 len0 t0 ∧ InRow 1 encI i64 0 w a1 len1 t1) := ⟨w0, w1⟩
  clear w0 w1
  obtain ⟨i0, hi, hz0, hz1, hz2⟩ := info_parts Try.infoPk
  go_enter Try.func3, Try.ntmps3
  go_wp2
  go_loopw [6, 7] (fun x y wr => ∃ (i c : Nat) (a : Option Addr) (v : Value) (g : Bg) (L : List Pk), y = .int .i64 i ∧ x = .slice a i c ∧ i ≤ len0 ∧ i ≤ 40 ∧ Hid (Once w wr v (.slice a i c) g L ∧ Snt i g L)) (fun _ y _ => 40 - (intOf y).toNat)
  case atStart => exact ⟨0, 0, _, _, bg0, [], rfl, rfl, Nat.zero_le _, Nat.zero_le _, (⟨once_new w, rfl, rfl, rfl⟩ : Once _ _ _ _ _ _ ∧ Snt 0 bg0 [])⟩
  case round =>
    obtain ⟨i, c, a, v, g, L, rfl, rfl, hil, hi40, H⟩ := hrel
    by_cases hlt : i < len0 ∧ i < 40
    · obtain ⟨hl1, hl2⟩ := hlt
      obtain ⟨b, o, ha, hb, hcells⟩ := HX.out.1.2.2.resolve_left (by omega)
      subst ha
      obtain ⟨hok, hc⟩ := hcells i hl1
      obtain ⟨s, hs⟩ : ∃ t, t = t0.getD i ByteArray.empty := ⟨_, rfl⟩
      rw [← hs] at hok hc
      have hB := H.out.1.bel
      have s0 := (bcell hB b (o + i * 1 + 0) hb).trans (hc 0 (by omega))
      simp only [encS, Nat.add_zero, Nat.mul_one, List.getElem?_cons_zero] at s0
      have hi0 : (0 : Int) ≤ (i : Int) := Int.natCast_nonneg _
      have hi1 : (i : Int) < (len0 : Int) := by omega
      have hi2 : (i : Int) < 40 := by omega
      unfold okS at hok
      clear hs hc hcells hB hb
      obtain ⟨s', hs'⟩ : ∃ s' : ByteArray, s' = (if 300 < s.size then s.extract 0 300 else s) := ⟨_, rfl⟩
      have hsz : s'.size ≤ 300 := by rw [hs']; split <;> first | (simp; omega) | omega
      have hsend := send_ok w.heap.size w.heap.size v g i (2 * i) s' wr H.out.1.bag H.out.1.bel.size (by omega) (by rw [H.out.2.1, H.out.2.2.1]; omega) H.out.1.ok.lo (by rw [H.out.2.2.2]; omega)
      have hss : (¬ 300 < s.size ∧ s' = s) ∨ (300 < s.size ∧ s' = s.extract 0 300) := by
        rw [hs']; by_cases h : 300 < s.size
        · exact .inr ⟨h, by rw [if_pos h]⟩
        · exact .inl ⟨h, by rw [if_neg h]⟩
      clear hs'
      obtain ⟨nid, hnid⟩ : ∃ nid, nid = g.last + 1 := ⟨_, rfl⟩
      rw [← hnid] at hsend
      have HN : Hid (nid = g.last + 1) := hnid
      clear hnid
      rcases hss with ⟨hss, he⟩ | ⟨hss, he⟩
      case' inl => have HE : Hid (s' = s) := he
      case' inr => have HE : Hid (s' = s.extract 0 300) := he
      all_goals
        clear he
        go_wp2_with fail
        rw [← HE.out]
        refine hsend.mono ?_
        rintro e w2 ⟨rfl, v2, hA2, hK2⟩
        have hO := once_sent H.out hA2 hK2 (by omega) hl2 (i64_small _ (by omega) (by omega)) (i64_small _ (by omega) (by omega))
        rw [← HN.out] at hO
        have HO : Hid (Once w w2 v2 (.slice a i c) (g.add i (2 * i) s') L ∧ Snt (i + 1) (g.add i (2 * i) s') (L ++ [⟨nid, i, 2 * i, s'⟩])) := hO
        have HLi : Hid (L.length = i) := H.out.2.2.1
        have hrow := hO.1.row
        rw [HLi.out] at hrow
        clear hA2 hK2 hO
        go_wp2_with (at_builtin; refine wpList_own_append4 _ rfl _ _ 24 24 rfl w.heap.size 32 i0 _ 40 Try.underlying24 hi hz0 hz1 hz2 rfl _ _ _ rfl (hrow.alloc _) _ 1 (Pk.cells ⟨nid, i, 2 * i, s'⟩) rfl (src_oneP w2 ⟨nid, i, 2 * i, s'⟩) ?c3 ?c4 ?c5 ?_)
        case c3 => unfold maxLen; omega
        case c4 => omega
        case c5 => have := HO.out.1.bel.size; simp; omega
        intro vs' w3 ha
        have hO3 := (HO.out.1.alloc _).app (by rw [HLi.out]; exact ha)
        obtain ⟨a', c', hv'⟩ := ha.shape
        subst hv'
        have H3 : Hid (Once w w3 v2 (.slice a' (i + 1) c') (g.add i (2 * i) s') (L ++ [⟨nid, i, 2 * i, s'⟩]) ∧ Snt (i + 1) (g.add i (2 * i) s') (L ++ [⟨nid, i, 2 * i, s'⟩])) := ⟨hO3, HO.out.2⟩
        clear ha hO3 hrow HO
        go_wp2
        go_roundw
        case rel => exact ⟨i + 1, c', a', v2, _, _, by go_num, rfl, by omega, by omega, H3⟩
        case measure => simp [intOf]; omega
    · have hor : (True ∧ ¬ (i : Int) < (len0 : Int)) ∨ ((i : Int) < (len0 : Int) ∧ ¬ (i : Int) < 40) := by
        by_cases q : (i : Int) < (len0 : Int)
        · exact .inr ⟨q, by omega⟩
        · exact .inl ⟨trivial, q⟩
      have hLi : L.length = i := H.out.2.2.1
      have HS : Hid (Sub w wr v (.slice a i c) g L ∧ L.length = i) := ⟨⟨H.out.1, fun p hp => by rw [← H.out.2.1]; exact hp, by rw [← H.out.2.1]; exact H.out.1.ok.rise⟩, hLi⟩
      clear hlt H hLi
      rcases hor with ⟨hor', hor⟩ | ⟨hor', hor⟩
      all_goals
        go_wp2
        go_loopw [11] (fun y wr => ∃ (k : Nat) (v : Value) (g : Bg), y = .int .i64 k ∧ k ≤ len1 ∧ k ≤ 40 ∧ Hid (Sub w wr v (.slice a i c) g L)) (fun y _ => 40 - (intOf y).toNat)
        case atStart => exact ⟨0, v, g, rfl, Nat.zero_le _, Nat.zero_le _, HS.out.1⟩
        case round =>
          obtain ⟨k, v', g', rfl, hkl, hk40, H4⟩ := hrel
          by_cases hlt2 : k < len1 ∧ k < 40
          · obtain ⟨hl1, hl2⟩ := hlt2
            obtain ⟨b, o, ha, hb, hcells⟩ := HX.out.2.2.2.resolve_left (by omega)
            subst ha
            obtain ⟨hok, hc⟩ := hcells k hl1
            obtain ⟨x, hx⟩ : ∃ t, t = t1.getD k 0 := ⟨_, rfl⟩
            rw [← hx] at hok hc
            have hB := H4.out.once.bel
            have s0 := (bcell hB b (o + k * 1 + 0) hb).trans (hc 0 (by omega))
            simp only [encI, Nat.add_zero, Nat.mul_one, List.getElem?_cons_zero] at s0
            have hk0 : (0 : Int) ≤ (k : Int) := Int.natCast_nonneg _
            have hk1 : (k : Int) < (len1 : Int) := by omega
            have hk2 : (k : Int) < 40 := by omega
            have hb' : b < wr.heap.size := by have := hB.size; omega
            clear hx hc hcells hB hok hb
            by_cases hin : 0 ≤ x ∧ x < i
            · obtain ⟨hx0, hx1⟩ := hin
              obtain ⟨j, rfl⟩ : ∃ j : Nat, x = j := ⟨x.toNat, by omega⟩
              have hjL : j < L.length := by rw [HS.out.2]; omega
              have hjn : ¬ (i : Int) ≤ (j : Int) := by omega
              have hrow := H4.out.once.row
              rcases pkrow_of hrow with ⟨_, _, _, e2⟩ | ⟨gg, c', e1, hBg, _, R, _⟩
              · rw [e2] at hjL; simp at hjL
              rw [HS.out.2] at e1
              simp only [Value.slice.injEq] at e1
              obtain ⟨ea, _, ec⟩ := e1
              subst ea ec
              have r0 := R.c0 j hjL
              have r1 := R.c1 j hjL
              have r2 := R.c2 j hjL
              have r3 := R.c3 j hjL
              obtain ⟨q, hq⟩ : ∃ q, q = L.getD j pk0 := ⟨_, rfl⟩
              rw [← hq] at r0 r1 r2 r3
              have HQ : Hid (q ∈ L) := by rw [hq]; exact getD_mem L j hjL
              have hglt := R.lt
              clear hq R hrow hBg
              rcases at_or g'.ps q.id with ⟨kk, hkk, hid⟩ | hno
              · have hid' : Hid ((g'.ps.getD kk pk0).id = q.id) := hid
                clear hid
                go_wp2_with fail
                refine (tk_hit (H4.out.alloc _) q HQ.out kk hkk hid'.out).mono ?_
                rintro e w5 ⟨rfl, v5, g5, hS5, hno5, hK5⟩
                have hf1 := H4.out.far
                have hP5 := (hK5.block wr.heap.size (by simp) hf1.1 hf1.2).trans (heap_alloc_new wr _)
                obtain ⟨d0, d1, d2, d3, df⟩ := four_block hP5
                have hl5 := lt_of_block hP5
                have H5 : Hid (Sub w w5 v5 (.slice (some ⟨gg, 0, none⟩) i c) g5 L ∧ ∀ p ∈ g5.ps, p.id ≠ q.id) := ⟨hS5, hno5⟩
                have HP5 : Hid _ := hP5
                clear hS5 hno5 hK5 hP5 H4
                go_wp2_with fail
                refine (tk_miss (H5.out.1.alloc _) q.id H5.out.2).mono ?_
                rintro e w6 ⟨rfl, hS6, hb6⟩
                have hP6 := (hb6.block wr.heap.size (by simp; omega)).trans ((Below.heap_alloc w5 _ wr.heap.size hl5).trans HP5.out)
                have hQ6 := (hb6.block w5.heap.size (by simp)).trans (heap_alloc_new w5 _)
                obtain ⟨f0, f1, f2, f3, ff⟩ := four_block hP6
                obtain ⟨h0, h1, h2, h3, hf⟩ := four_block hQ6
                have hl6 := lt_of_block hP6
                have hm6 := lt_of_block hQ6
                have H6 : Hid (Sub w w6 v5 (.slice (some ⟨gg, 0, none⟩) i c) g5 L) := hS6
                clear hS6 hb6 hP6 hQ6 H5
                go_wp2_with (go_at_call 10; refine (is_same 9 _).mono ?_; rintro e w' ⟨rfl, rfl⟩)
                go_roundw
                case rel => exact ⟨k + 1, v5, g5, by go_num, by omega, by omega, (H6.out.alloc _ : Sub w _ v5 _ g5 L)⟩
                case measure => simp [intOf]; omega
              · have hno' : Hid (∀ p ∈ g'.ps, p.id ≠ q.id) := hno
                clear hno
                go_wp2_with fail
                refine (tk_miss (H4.out.alloc _) q.id hno'.out).mono ?_
                rintro e w5 ⟨rfl, hS5, hb5⟩
                have hP5 := (hb5.block wr.heap.size (by simp)).trans (heap_alloc_new wr _)
                obtain ⟨d0, d1, d2, d3, df⟩ := four_block hP5
                have hl5 := lt_of_block hP5
                have H5 : Hid (Sub w w5 v' (.slice (some ⟨gg, 0, none⟩) i c) g' L) := hS5
                have HP5 : Hid _ := hP5
                clear hS5 hb5 hP5 H4
                go_wp2_with fail
                refine (tk_miss (H5.out.alloc _) q.id hno'.out).mono ?_
                rintro e w6 ⟨rfl, hS6, hb6⟩
                have hP6 := (hb6.block wr.heap.size (by simp; omega)).trans ((Below.heap_alloc w5 _ wr.heap.size hl5).trans HP5.out)
                have hQ6 := (hb6.block w5.heap.size (by simp)).trans (heap_alloc_new w5 _)
                obtain ⟨f0, f1, f2, f3, ff⟩ := four_block hP6
                obtain ⟨h0, h1, h2, h3, hf⟩ := four_block hQ6
                have hl6 := lt_of_block hP6
                have hm6 := lt_of_block hQ6
                have H6 : Hid (Sub w w6 v' (.slice (some ⟨gg, 0, none⟩) i c) g' L) := hS6
                clear hS6 hb6 hP6 hQ6 H5
                go_wp2_with (go_at_call 10; refine (is_same 9 _).mono ?_; rintro e w' ⟨rfl, rfl⟩)
                go_roundw
                case rel => exact ⟨k + 1, v', g', by go_num, by omega, by omega, (H6.out.alloc _ : Sub w _ v' _ g' L)⟩
                case measure => simp [intOf]; omega
            · have hor : (x < 0) ∨ (¬ x < 0 ∧ (i : Int) ≤ x) := by omega
              clear hin
              rcases hor with hx | ⟨hx, hx'⟩
              all_goals
                go_wp2
                go_roundw
                case rel => exact ⟨k + 1, v', g', by go_num, by omega, by omega, H4⟩
                case measure => simp [intOf]; omega
          · have hor : (True ∧ ¬ (k : Int) < (len1 : Int)) ∨ ((k : Int) < (len1 : Int) ∧ ¬ (k : Int) < 40) := by
              by_cases q : (k : Int) < (len1 : Int)
              · exact .inr ⟨q, by omega⟩
              · exact .inl ⟨trivial, q⟩
            clear hlt2
            rcases hor with ⟨hor2', hor2⟩ | ⟨hor2', hor2⟩
            all_goals
              go_wp2_with (go_at_call 11; refine (bawake_any _).mono ?_; rintro e w8 ⟨rfl, hb8⟩)
              go_ret
              exact ⟨rfl, H4.out.once.bel.trans (hb8.mono H4.out.once.bel.size)⟩

/-! ### The row's step -/
set_option maxRecDepth 100000 in
theorem lifted (os : Os) (started : os.Started) (H : Type) (enc : TypeId × Value → H) :
    ReturnsInHanded {} Try.checked os 3 .any (Rows.bagOnceSpec.pre6 enc Try.prog Try.f3 Rows.bagOnceRow.domain false) (Rows.bagOnceSpec.post enc Try.prog Try.f3 false true false false) := by
  refine returnsInHanded_of_change (C := Try.checked) own started (by kernel_rfl) Try.func3
    (ChangeSpec.witness6 (enc := enc) (C := Try.checked) false ⟨#[], #[.slice none 0 0, .slice none 0 0], []⟩ 8 (by kernel_rfl) (by kernel_rfl) (by kernel_rfl) (by kernel_rfl)) ?_
  intro W base args ds gs before hval0 hW hcnd _
  have hval : ∀ (j : Nat) t v, Try.f3.params[j]? = some t → args[j]? = some v → Value.okWide Try.prog W .any base t v := hval0
  have hW' := hW
  obtain ⟨p, q, hA0, hV, rfl, hfz, hnd⟩ := hW
  have hA : DataW.TrodAll enc Try.prog W 0 (fun _ => true) true Try.f3.params.toList args.toList ds p := hA0
  rw [Try.params3] at hA hval
  obtain ⟨v0, vs0, d0, ds0, p0, q0, hargs, rfl, rfl, h0, r0⟩ := trodAll_cons hA
  obtain ⟨v1, vs1, d1, ds1, p1, q1, rfl, rfl, rfl, h1, r1⟩ := trodAll_cons r0
  obtain ⟨rfl, rfl, rfl⟩ := trodAll_nil r1
  obtain rfl : args = #[v0, v1] := by cases args; simp_all
  obtain ⟨rfl, rfl⟩ := trodVars_none hV
  obtain ⟨a0, len0, cap0, rfl⟩ := okWide_slice Try.underlying22 (hval 0 22 v0 rfl rfl)
  have k0 := h0
  have lt0 : ∀ x ∈ p0, x.block < W.heap.size := by obtain ⟨m, hm⟩ := k0; exact DataW.trod_lt m _ _ _ hm
  obtain ⟨t0, w0⟩ : ∃ ts, InRow 1 encS okS ByteArray.empty W a0 len0 ts := by
    obtain ⟨fuel, hf⟩ := h0
    exact inrow_of 1 encS okS ByteArray.empty 22 9 Try.underlying22 cellsS1 (by omega) lenS (fun n cs x => str_of n cs x) hf
  obtain ⟨a1, len1, cap1, rfl⟩ := okWide_slice Try.underlying23 (hval 1 23 v1 rfl rfl)
  have k1 := h1
  have lt1 : ∀ x ∈ p1, x.block < W.heap.size := by obtain ⟨m, hm⟩ := k1; exact DataW.trod_lt m _ _ _ hm
  obtain ⟨t1, w1⟩ : ∃ ts, InRow 1 encI i64 0 W a1 len1 ts := by
    obtain ⟨fuel, hf⟩ := h1
    exact inrow_of 1 encI i64 0 23 3 Try.underlying23 cellsI1 (by omega) lenI (fun n cs x => int_of n cs x) hf
  clear hA0 hval0
  refine (walk a0 len0 cap0 t0 a1 len1 cap1 t1 W w0 w1).mono fun e W' ⟨he, bel⟩ => ?_
  subst he
  exact ⟨_, rfl, _, _, _, [], _, [], hW', trodAll_mk1 (shut_bool Try.underlying4 _), (trodAll_cons_mk (Below.trod laidOut (by kernel_rfl) (of_decide_eq_true (by kernel_rfl)) k0 bel lt0) (trodAll_cons_mk (Below.trod laidOut (by kernel_rfl) (of_decide_eq_true (by kernel_rfl)) k1 bel lt1) trodAll_mk0)), rfl, bel.frame _, fun h => by cases h⟩

theorem over : Rows.bagOnceRow.holds Try.pinned (OpenSpec.ofChange Rows.bagOnceSpec) :=
  OpenClaim.holds_of_wide 3 Try.f3 rfl rfl rfl rfl rfl rfl rfl ⟨rfl, rfl, rfl, rfl, rfl⟩ rfl rfl rfl rfl rfl (by kernel_rfl) Try.func3 (by kernel_rfl)
    (of_decide_eq_true (by kernel_rfl)) (by unfold Func.isWrapper; first | (rw [if_pos (by decide +kernel)]; kernel_rfl) | (rw [if_neg (by decide +kernel)]; exact ⟨rfl, rfl⟩))
    (fun os started H enc _ => lifted os started H enc)

end Go.Proofs.Ytcclfibojmfjgaa.bagOnce

namespace Go.Proofs.Ytcclfibojmfjgaa
/-- Proved: for every list of texts and every order, BagOnce answers true (what is taken was sent, just so, and is taken once; of at most 40 packets). -/
theorem bagOnce_holds : Rows.BagOnceSaid := bagOnce.over
#print axioms bagOnce_holds
end Go.Proofs.Ytcclfibojmfjgaa
